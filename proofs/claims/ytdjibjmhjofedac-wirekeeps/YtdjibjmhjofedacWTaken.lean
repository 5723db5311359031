/-
  take of a stream; Bodies; taken.
-/
import Derived.Test.YtdjibjmhjofedacWDecide
import Derived.Test.YtdjibjmhjofedacWRange
import Derived.RangeFuncBound
import Derived.Shelf.Abstract
import Derived.Shelf.RegionOpen
import Derived.WalkKit
import Derived.OwnWalkIn
import Derived.TacticsInMore
import Derived.LoopNIn
import Derived.LoopIn
import Derived.Sort.LoopGhostIn
namespace Go.Proofs.Ytdjibjmhjofedac
open Go.RowKit Go.Shelf
set_option linter.unusedVariables false
attribute [local go_sem] Oper.semAt_some

theorem Fr.set {S : Nat → Prop} {w w' : World} (h : Fr S w w') (a : Addr) (v : Value) (hs : S a.block) : Fr S w (w'.setCell a v) :=
  h.trans (Fr.of_setCell w' a v) (fun j e => .inl (by rw [show j = a.block from e]; exact hs))

/-- What take leaves. -/
structure Took (w : World) (sb : Nat) (rv fv : Value) (xs : List Int) (sk : Nat) (p : Value × List Int) (rest : List (Value × List Int)) (w' : World) (fv' : Value) : Prop where
  st : St w' sb rv fv' xs rest sk
  own : w'.ownsRow 0 5 1 p.1 p.2.length (bv p.2)
  fr : Fr (fun b => b = sb ∨ fv.ownBlock = some b) w w'
  fv : ∀ b, fv'.ownBlock = some b → fv.ownBlock = some b

theorem St.taken {w w' : World} {sb sk : Nat} {rv fv fv' : Value} {xs : List Int} {p : Value × List Int} {rest : List (Value × List Int)} (h : St w sb rv fv xs (p :: rest) sk) (hblk : w'.heap[sb]? = some (.cells #[rv, fv', .int .i64 sk] 33 (0, 0)))
    (hf : Fr (fun b => b = sb ∨ fv.ownBlock = some b) w w') (hd : Deq w' 26 fv' (rest.map (·.1))) (hfv : ∀ b, fv'.ownBlock = some b → fv.ownBlock = some b) : Took w sb rv fv xs sk p rest w' fv' := by
  have ha := h.apart
  unfold ApartV at ha
  rw [List.map_cons] at ha
  have hne : ∀ q ∈ p :: rest, ∀ k, q.1.ownBlock = some k → ¬ (k = sb ∨ fv.ownBlock = some k) := fun q hq k hk e => by
    have := h.ne_b q hq k hk
    rcases e with e | e
    · exact this.1 e
    · exact this.2.1 e
  refine ⟨⟨hblk, owns_fr h.room hf (fun k hk e => ?_), hd, fun q hq => ⟨owns_fr (h.each q (.tail _ hq)).1 hf (hne q (.tail _ hq)), (h.each q (.tail _ hq)).2⟩, ?_, h.byt⟩, owns_fr (h.each p (.head _)).1 hf (hne p (.head _)), hf, hfv⟩
  · rcases e with e | e
    · exact (h.ne_r k hk).1 e
    · exact (h.ne_r k hk).2 e
  · unfold ApartV
    rw [List.pairwise_cons] at ha ⊢
    exact ⟨fun a' ha' => ha.1 a' (.tail _ ha'), (List.pairwise_cons.1 ha.2).2⟩

theorem owns_slice {w : World} {base n : Nat} {e : TypeId} {v : Value} {vals : List Value} (h : w.ownsRow base e 1 v n vals) : ∃ a n c, v = .slice a n c := by
  rcases h.2 with ⟨rfl, _⟩ | ⟨g, cap, cur, rfl, _⟩
  · exact ⟨_, _, _, rfl⟩
  · exact ⟨_, _, _, rfl⟩

theorem take_st (sb sk : Nat) (rv fv : Value) (xs : List Int) (fs : List (Value × List Int)) (w : World) (h : St w sb rv fv xs fs sk) :
    Calls Try.prog 42 #[.pointer (some ⟨sb, 0, none⟩)] w fun e w' =>
      (fs = [] ∧ e = .returned (.tuple #[.slice none 0 0, .bool false]) ∧ w' = w) ∨
      (∃ p rest fv', fs = p :: rest ∧ e = .returned (.tuple #[p.1, .bool true]) ∧ Took w sb rv fv xs sk p rest w' fv') := by
  match fs, h with
  | [], h =>
    have hc := h.c1
    rcases h.fnd with ⟨rfl, _⟩ | ⟨g, off, cap, cur, rfl, _⟩
    · refine (take_none sb 0 none w hc).mono ?_
      rintro e w' ⟨rfl, rfl⟩
      exact .inl ⟨rfl, rfl, rfl⟩
    · refine (take_none sb cap _ w hc).mono ?_
      rintro e w' ⟨rfl, rfl⟩
      exact .inl ⟨rfl, rfl, rfl⟩
  | p :: rest, h =>
    have hc := h.c1
    have hfz := h.fz 1
    have hne := h.ne_f
    have hlen := h.fnd
    rcases h.fnd with ⟨_, h0⟩ | ⟨g, off, cap, cur, rfl, hg, hn, hs, hm, htk⟩
    · cases h0
    · have hne' : sb ≠ g := fun e => hne g rfl e.symm
      rw [List.length_map] at hc hn htk
      have hl : (p :: rest).length = rest.length + 1 := rfl
      have hcur : cur[off]? = some p.1 := by
        have : ((cur.toList.drop off).take (p :: rest).length)[0]? = some p.1 := by rw [htk]; rfl
        rw [List.getElem?_take, if_pos (by omega), List.getElem?_drop] at this
        rw [← Array.getElem?_toList]
        exact this
      have hdrop : ((cur.toList.drop (off + 1)).take rest.length) = rest.map (·.1) := by
        have : ((cur.toList.drop off).take (p :: rest).length).drop 1 = rest.map (·.1) := by rw [htk]; rfl
        rw [List.drop_take, List.drop_drop] at this
        simpa using this
      have hcv : w.cell? ⟨g, off, none⟩ = some p.1 := (cell_blk hg off).trans hcur
      have hfv := frozen_blk hg off
      have hsl := owns_slice (h.each p (.head _)).1
      match rest, h, hl, hdrop, hlen with
      | [], h, hl, hdrop, hlen =>
        refine (take_last sb g off cap p.1 w hne' (by omega) (by rw [hl] at hc; exact hc) hfz hcv hfv hsl (by omega)).mono ?_
        rintro e w' ⟨rfl, u, rfl⟩
        refine .inr ⟨p, [], .slice none 0 0, rfl, rfl, h.taken ?_ ?_ (.inl ⟨rfl, rfl⟩) (fun b hb => by cases hb)⟩
        · have h1 : (w.setCell ⟨g, off, none⟩ (.slice none 0 0)).heap[sb]? = _ := (Below.heap_setCell w ⟨g, off, none⟩ (.slice none 0 0) sb hne').trans h.blk
          exact (set_blk (set_blk h1 1 u) 1 (.slice none 0 0)).trans rfl
        · exact (((Fr.refl _ w).set _ _ (.inr rfl)).set _ _ (.inl rfl)).set _ _ (.inl rfl)
      | q :: rest, h, hl, hdrop, hlen =>
        refine (take_more sb g off _ cap p.1 w hne' (by simp) hn hc hfz hcv hfv hsl (by omega)).mono ?_
        rintro e w' ⟨rfl, rfl⟩
        refine .inr ⟨p, q :: rest, .slice (some ⟨g, off + 1, none⟩) ((p :: q :: rest).length - 1) (cap - 1), rfl, rfl, h.taken ?_ ?_ ?_ ?_⟩
        · have h1 : (w.setCell ⟨g, off, none⟩ (.slice none 0 0)).heap[sb]? = _ := (Below.heap_setCell w ⟨g, off, none⟩ (.slice none 0 0) sb hne').trans h.blk
          exact (set_blk h1 1 _).trans rfl
        · exact ((Fr.refl _ w).set _ _ (.inr rfl)).set _ _ (.inl rfl)
        · refine .inr ⟨g, off + 1, cap - 1, cur.setIfInBounds off (.slice none 0 0), by rw [hl, List.length_map]; rfl, ?_, by rw [List.length_map]; omega, by rw [Array.size_setIfInBounds]; omega, by rw [Array.size_setIfInBounds]; omega, ?_⟩
          · refine (Below.heap_setCell _ ⟨sb, 1, none⟩ _ g (Ne.symm hne')).trans ?_
            exact set_blk hg off _
          · rw [Array.toList_setIfInBounds, List.drop_set, if_pos (by omega), List.length_map]
            exact hdrop
        · intro b hb
          exact hb

set_option maxRecDepth 100000 in
set_option maxHeartbeats 3200000 in
/-- Bodies: the receiver is boxed; the function value keeps the box. -/
theorem bodies_any (p : Option Addr) (w : World) :
    Calls Try.prog 31 #[.pointer p] w fun e w' => e = .returned (.func (.func 41) #[] #[.pointer (some ⟨w.heap.size, 0, none⟩)]) ∧ w' = w.alloc (.cells #[.pointer p] 31) := by
  go_enter Try.func31, Try.ntmps31
  go_wp2
  go_ret
  exact ⟨rfl, rfl⟩

/-- What take says of the stream behind p: no more, and E; or one more, and Y. -/
def TakesTo (p : Option Addr) {σ : Type} (I : σ → World → Prop) (Y : σ → Value → World → Prop) (E : World → Prop) (Bb : Nat) : Prop :=
  ∀ s w, I s w → w.cell? ⟨Bb, 0, none⟩ = some (.pointer p) ∧ Calls Try.prog 42 #[.pointer p] w fun e w' => KeepsOthers w w' ∧
    ((e = .returned (.tuple #[.slice none 0 0, .bool false]) ∧ E w') ∨ (∃ a n c, e = .returned (.tuple #[.slice a n c, .bool true]) ∧ Y s (.slice a n c) w'))

set_option maxRecDepth 100000 in
set_option maxHeartbeats 3200000 in
/-- The function that Bodies hands out, for whatever loop. -/
theorem bodies_seq (n : Nat) (p : Option Addr) (Bb B : Nat) {σ : Type} (I : σ → World → Prop) (Y : σ → Value → World → Prop) (N : σ → Value → σ → Prop) (X : Code → World → Prop) (E : World → Prop) (s0 : σ) (μ : σ → Nat)
    (ht : TakesTo p I Y E Bb) (hμ : ∀ s x s', N s x s' → μ s' < μ s) :
    SeqSt Fence.wide n Try.prog 41 #[.pointer (some ⟨Bb, 0, none⟩)] (fun v : Value => #[v]) B I Y N X E s0 := by
  intro l Z Zx W1 hZ hZx hY h0 hz0
  refine callsIn_of_wp Try.func41 rfl trivial ?_ rfl
  simp only [Try.ntmps41, List.size_toArray, List.length_cons, List.length_nil, Nat.reduceAdd, Nat.reduceSub, Array.replicate_succ, Array.replicate_zero, List.push_toArray, List.append_toArray, List.nil_append, List.cons_append]
  gi_wp2
  gi_loopg [] (μ s0) (fun m wr => ∃ s, μ s = m ∧ Hid (I s wr) ∧ Hid (Z wr))
  case atStart => exact ⟨s0, rfl, h0, hz0⟩
  case round =>
    obtain ⟨s, hs, hI, hz⟩ := hrel
    obtain ⟨hbx, htk⟩ := ht s wr hI.out
    have HT : Hid _ := htk
    have HY : Hid _ := hY
    clear htk hY hZx
    gi_wp2
    refine ⟨trivial, (fun hd => nomatch hd), ?_⟩
    refine (callsIn_wide.2 HT.out).mono ?_
    rintro e w1 ⟨hk1, (⟨rfl, hE⟩ | ⟨a, nn, c, rfl, hy⟩)⟩
    · have HE : Hid (E w1) := hE
      have HZ : Hid (Z w1) := hZ _ _ (hk1.from B) hz.out
      clear hE hk1
      gi_wp2
      refine ⟨fun _ h => (by cases h), ?_⟩
      gi_wp2
      refine bodyPost_ret (results_none rfl _ _ _) rfl ?_
      exact ⟨⟨_, rfl⟩, .inl ⟨HE.out, HZ.out⟩⟩
    · obtain ⟨fn, tmps, assign, body, hyl, hR⟩ := HY.out s _ w1 hy (hZ _ _ (hk1.from B) hz.out)
      have HR : Hid _ := hR
      clear hR hk1 hy
      gi_wp2
      refine ⟨(fun hd => nomatch hd), ?_⟩
      refine RoundIn.mono HR.out ?_
      rintro e W3 (⟨rfl, ⟨s', hN, hI3⟩, hZ3⟩ | ⟨rfl, c3, hX3⟩)
      · have HI3 : Hid _ := hI3
        have HZ3 : Hid _ := hZ3
        clear hI3 hZ3
        gi_wp2
        gi_roundg (μ s')
        case rel => exact ⟨s', rfl, HI3, HZ3⟩
        case measure => rw [← hs]; exact hμ _ _ _ hN
      · have HX3 : Hid _ := hX3
        clear hX3
        gi_wp2
        refine bodyPost_ret (results_none rfl _ _ _) rfl ?_
        exact ⟨⟨_, rfl⟩, .inr ⟨c3, HX3.out⟩⟩
end Go.Proofs.Ytdjibjmhjofedac
