/-
  follows: what it writes over.
-/
import Derived.Test.YtdjibjmhjofedacWFinds1
import Derived.Test.YtdjibjmhjofedacWTakenAny
import Derived.Test.YtdjibjmhjofedacWSaysC
namespace Go.Proofs.Ytdjibjmhjofedac
open Go.RowKit
set_option linter.unusedVariables false

/-- A stream that was fed P and gave m bodies away. -/
structure StQ (w : World) (sb : Nat) (rv fv : Value) (P : List Int) (m : Nat) (fs : List (Value × List Int)) : Prop where
  st : St w sb rv fv (P.drop (dec P).2.2) fs (dec P).2.1
  all : (dec P).1.drop m = fs.map (·.2)
  le : m ≤ (dec P).1.length

theorem StQ.fed {w w' : World} {sb m : Nat} {rv fv rv' fv' : Value} {P ys : List Int} {fs gs : List (Value × List Int)} (h : StQ w sb rv fv P m fs) (hF : Fed w sb rv fv (P.drop (dec P).2.2) fs (dec P).2.1 ys w' rv' fv' gs) : StQ w' sb rv' fv' (P ++ ys) m (fs ++ gs) := by
  obtain ⟨e1, e2, e3⟩ := dec_fed P ys
  refine ⟨by rw [e1, e3]; exact hF.st, ?_, by rw [e2, List.length_append]; have := h.le; omega⟩
  rw [e2, List.drop_append_of_le_length h.le, h.all, List.map_append, hF.bodies]
theorem StQ.zero (w : World) : StQ (w.alloc (.cells #[.slice none 0 0, .slice none 0 0, .int .i64 0] 33)) w.heap.size (.slice none 0 0) (.slice none 0 0) [] 0 [] :=
  ⟨by rw [dec_nil]; exact St.zero w, by rw [dec_nil]; rfl, Nat.zero_le _⟩

/-- The blocks of some bodies. -/
def BodyB (fs : List (Value × List Int)) : Nat → Prop := fun b => ∃ p ∈ fs, p.1.ownBlock = some b

/-- The bodies from i on are as they were; nothing but bodies has turned. -/
structure FoI (fs : List (Value × List Int)) (w5 : World) (i : Nat) (W : World) : Prop where
  fr : Fr (BodyB fs) w5 W
  rest : ∀ (j : Nat) (p : Value × List Int), i ≤ j → fs[j]? = some p → W.ownsRow 0 5 1 p.1 p.2.length (bv p.2)
structure FoJ (fs : List (Value × List Int)) (w5 : World) (i : Nat) (p : Value × List Int) (W : World) : Prop where
  fr : Fr (BodyB fs) w5 W
  rest : ∀ (j : Nat) (p : Value × List Int), i + 1 ≤ j → fs[j]? = some p → W.ownsRow 0 5 1 p.1 p.2.length (bv p.2)
  mine : ∃ zs : List Int, zs.length = p.2.length ∧ W.ownsRow 0 5 1 p.1 p.2.length (bv zs)

theorem FoI.at {fs : List (Value × List Int)} {w5 W : World} {i : Nat} {p : Value × List Int} (h : FoI fs w5 i W) (hp : fs[i]? = some p) : FoJ fs w5 i p W :=
  ⟨h.fr, fun j q hj hq => h.rest j q (by omega) hq, p.2, rfl, h.rest i p (Nat.le_refl _) hp⟩
theorem FoJ.next {fs : List (Value × List Int)} {w5 W : World} {i : Nat} {p : Value × List Int} (h : FoJ fs w5 i p W) : FoI fs w5 (i + 1) W := ⟨h.fr, h.rest⟩
theorem FoI.below {fs : List (Value × List Int)} {w5 W W' : World} {i : Nat} (h : FoI fs w5 i W) (hb : Below W.heap.size W W') : FoI fs w5 i W' :=
  ⟨h.fr.trans (Fr.of_below hb (fun _ => False)) (fun _ e => e.elim), fun j p hj hp => owns_fr (h.rest j p hj hp) (Fr.of_below hb (fun _ => False)) (fun _ _ h => h)⟩

theorem FoJ.write {fs : List (Value × List Int)} {w5 W : World} {i g cap q : Nat} {p : Value × List Int} (h : FoJ fs w5 i p W) (ha : ApartV (fs.map (·.1))) (hi : fs[i]? = some p) (hv : p.1 = .slice (some ⟨g, 0, none⟩) p.2.length cap) (hq : q < p.2.length) :
    FoJ fs w5 i p (W.setCell ⟨g, q, none⟩ (.int .u8 238)) ∧ W.cell? ⟨g, q, none⟩ ≠ none ∧ W.frozen? ⟨g, q, none⟩ = false := by
  obtain ⟨zs, hzl, hrow⟩ := h.mine
  have hil : i < fs.length := (List.getElem?_eq_some_iff.1 hi).1
  have hpm : p ∈ fs := List.mem_of_getElem? hi
  have hown : p.1.ownBlock = some g := by rw [hv]; rfl
  have hr2 := hrow
  rcases hrow.2 with ⟨h1, _⟩ | ⟨g', cap', cur, h1, _, hg, hn, hc, hs, ht⟩
  · rw [hv] at h1; cases h1
  · rw [hv] at h1
    cases h1
    have hf := Fr.of_setCell W ⟨g, q, none⟩ (.int .u8 238)
    refine ⟨⟨h.fr.trans hf (fun b e => .inl ⟨p, hpm, by rw [show b = g from e]; exact hown⟩), fun j r hj hr => owns_fr (h.rest j r hj hr) hf (fun b hb e => ?_), zs.set q 238, by rw [List.length_set]; exact hzl, ?_⟩, ?_, frozen_blk hg q⟩
    · have hap := List.pairwise_iff_getElem.1 ha i j (by rw [List.length_map]; exact hil) (by rw [List.length_map]; exact (List.getElem?_eq_some_iff.1 hr).1) (by omega)
      rw [List.getElem_map, List.getElem_map, (List.getElem?_eq_some_iff.1 hi).2, (List.getElem?_eq_some_iff.1 hr).2] at hap
      exact hap g hown (by rw [← show b = g from e]; exact hb)
    · refine ⟨by rw [bv_len, List.length_set]; omega, .inr ⟨g, cap, cur.setIfInBounds q (.int .u8 238), hv, Nat.zero_le _, set_blk hg q _, hn, hc, by rw [Array.size_setIfInBounds]; exact hs, ?_⟩⟩
      rw [Nat.mul_one] at ht ⊢
      rw [Array.toList_setIfInBounds, List.take_set, ht]
      unfold bv
      rw [List.map_set]
    · rw [cell_blk hg, Array.getElem?_eq_getElem (by omega)]
      simp

/-- What lies outside the bodies' blocks. -/
theorem FoI.keeps {fs : List (Value × List Int)} {w5 W : World} {i base n : Nat} {e : TypeId} {v : Value} {vals : List Value} (h : FoI fs w5 i W) (hv : w5.ownsRow base e 1 v n vals) (hn : ∀ b, v.ownBlock = some b → ¬ BodyB fs b) : W.ownsRow base e 1 v n vals := owns_fr hv h.fr hn

theorem St.rest {w5 W : World} {sb sk k : Nat} {rv fv fv0 : Value} {xs : List Int} {fs : List (Value × List Int)} {w : World} (h0 : St w sb rv fv0 xs fs sk) (h : St w5 sb rv fv xs (fs.drop k) sk) (hsub : ∀ b, fv.ownBlock = some b → fv0.ownBlock = some b) (hf : Fr (BodyB (fs.take k)) w5 W) : St W sb rv fv xs (fs.drop k) sk := by
  have ha := h0.apart
  unfold ApartV at ha
  rw [List.pairwise_cons, ← List.take_append_drop k fs, List.map_append, List.pairwise_append] at ha
  refine h.fr hf ?_ ?_ ?_ ?_
  · rintro ⟨p, hp, e⟩
    exact (h0.ne_b p (List.mem_of_mem_take hp) sb e).1 rfl
  · rintro b hb ⟨p, hp, e⟩
    exact (h0.ne_b p (List.mem_of_mem_take hp) b e).2.2 hb
  · rintro b hb ⟨p, hp, e⟩
    exact (h0.ne_b p (List.mem_of_mem_take hp) b e).2.1 (hsub b hb)
  · rintro q hq b hb ⟨p, hp, e⟩
    exact ha.2.2.2 p.1 (List.mem_map_of_mem hp) q.1 (List.mem_map_of_mem hq) b e hb
end Go.Proofs.Ytdjibjmhjofedac
