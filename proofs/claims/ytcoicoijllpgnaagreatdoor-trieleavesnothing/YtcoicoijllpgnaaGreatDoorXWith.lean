/-
  trie: a list with one watch more, with one less.
-/
import Derived.Test.YtcoicoijllpgnaaGreatDoorXIns
namespace Go.Proofs.YtcoicoijllpgnaaGreatDoor
open Go.RowKit
set_option linter.unusedVariables false
set_option linter.unusedSimpArgs false

set_option maxHeartbeats 3200000 in
theorem find_any (a : Option Addr) (c : Nat) (l : List He) (s i : Int) (w : World) (hs : Hl w a c l) (hl : l.length ≤ 100000) (ho : Ord l) :
    Calls Tryz.prog 43 #[.slice a l.length c, tagV s i] w fun e w' => ∃ n : Nat, e = .returned (.tuple #[.int .i64 n, .bool (hasH l s i)]) ∧ Stood l s i n ∧ Below w.heap.size w w' := by
  have hb0 : Below w.heap.size w (w.alloc (.cells #[.int .i64 s, .int .i64 i] 34)) := (Below.refl _ _).alloc (Nat.le_refl _) _
  have HF : Hid _ := searchH a c l s i _ (hs.below hb0) hl ho
  have HB : Hid _ := hb0
  obtain ⟨y0, y1⟩ := cells_2 (heap_alloc_new w (.cells #[.int .i64 s, .int .i64 i] 34))
  clear hs ho hb0
  go_enter Tryz.func43, Tryz.ntmps43
  go_wp2_with (first | (go_at_call 62; refine Calls.mono HF.out ?_; rintro e w1 ⟨n, rfl, hst, hb⟩; (have HST : Hid _ := hst); clear hst) | fail)
  go_ret2
  exact ⟨n, rfl, HST.out, xtrans2 HB.out hb⟩
theorem Chg.beh {w w1 w2 : World} {S : Nat → Prop} (h : Below w.heap.size w w1) (k : Chg w1 w2 S) : Chg w w2 S :=
  ⟨k.os.trans h.os, k.tape.trans h.tape, k.output.trans h.output, Nat.le_trans h.size k.size, fun i hi hs => (k.block i (Nat.lt_of_lt_of_le hi h.size) hs).trans (h.block i hi)⟩
theorem Hl.own {w : World} {a : Option Addr} {c : Nat} {l : List He} (h : Hl w a c l) {k : Nat} (hk : (Value.slice a l.length c).ownBlock = some k) : k < w.heap.size := (h.1.lt k hk).2
set_option maxHeartbeats 6400000 in
theorem with_any (a : Option Addr) (c : Nat) (l : List He) (h : He) (w : World) (hs : Hl w a c l) (hh : HdAt w h) (hl : l.length ≤ 100000) (ho : Ord l) :
    Calls Tryz.prog 40 #[.slice a l.length c, h.ptr] w fun e w' => ∃ v', e = .returned v' ∧ w'.ownsRow 0 84 1 v' (insH h l).length (ptrs (insH h l)) ∧ Chg w w' (fun k => (Value.slice a l.length c).ownBlock = some k) ∧ (∀ k, v'.ownBlock = some k → (Value.slice a l.length c).ownBlock = some k ∨ w.heap.size ≤ k) := by
  have HS : Hid (Hl w a c l) := hs
  have HH : Hid (HdAt w h) := hh
  have HO : Hid (Ord l) := ho
  clear hs hh ho
  go_enter Tryz.func40, Tryz.ntmps40
  go_wp2_with (first
    | (go_at_call 32; refine (tag_any h w HH.out).mono ?_; rintro e w1 ⟨rfl, hb1⟩
       have HB1 : Hid (Below w.heap.size w w1) := hb1
       clear hb1)
    | (go_at_call 43; refine (find_any a c l h.s h.i w1 (HS.out.below HB1.out) hl HO.out).mono ?_; rintro e w2 ⟨n, rfl, hst, hb2⟩
       have HB2 : Hid (Below w.heap.size w w2) := xtrans2 HB1.out hb2
       have HST : Hid _ := hst
       clear hst hb2)
    | (go_at_call 59
       refine (insert_any 0 w2.heap.size n a c l h (w2.alloc (.cells #[h.ptr] 84)) (owns_below (HS.out.below HB2.out).1 ((Below.refl _ _).alloc (Nat.le_refl _) _)) HST.out.le hl (heap_alloc_new _ _) (fun e => Nat.lt_irrefl _ ((HS.out.below HB2.out).own e)) (Nat.zero_le _)).mono ?_
       rintro e w3 ⟨v', rfl, ho3, hc3, ha3⟩
       have HO3 : Hid _ := ho3
       have HC3 : Hid _ := hc3
       have HA3 : Hid _ := ha3
       clear ho3 hc3 ha3)
    | fail)
  go_ret
  have he := ins_at (h := h) HST.out.lo HST.out.hi
  refine ⟨v', rfl, ?_, Chg.beh (HB2.out.alloc (by have := HB2.out.size; omega) _) HC3.out, fun k hk => (HA3.out k hk).imp id (fun e => ?_)⟩
  · rw [ins_len]
    have := HO3.out
    rw [he] at this
    exact this
  · have := HB2.out.size
    simp at e
    omega
theorem rw_of_hl {w : World} {a : Option Addr} {c : Nat} {l : List He} (hs : Hl w a c l) (hne : l ≠ []) : ∃ g cur, a = some ⟨g, 0, none⟩ ∧ Rw w g c l cur := by
  obtain ⟨x, hx⟩ : ∃ x, l[0]? = some x := by
    cases l with
    | nil => exact absurd rfl hne
    | cons x r => exact ⟨x, rfl⟩
  obtain ⟨g, rfl, _⟩ := hs.at hx
  obtain ⟨cur, h, _⟩ := rw_of hs.1
  exact ⟨g, cur, rfl, h⟩
theorem stood_at {l : List He} {h : He} {n : Nat} (ho : Ord l) (hm : h ∈ l) (hst : Stood l h.s h.i n) : l[n]? = some h := by
  obtain ⟨j, hj⟩ := List.getElem?_of_mem hm
  have hjl := (List.getElem?_eq_some_iff.1 hj).1
  rcases Nat.lt_trichotomy j n with h1 | h1 | h1
  · have := hst.lo j h h1 hj
    rw [bef_irr] at this
    cases this
  · subst h1; exact hj
  · obtain ⟨y, hy⟩ : ∃ y, l[n]? = some y := ⟨l[n], List.getElem?_eq_getElem (by omega)⟩
    have h2 := hst.hi n y (Nat.le_refl _) hy
    have h3 := List.pairwise_iff_getElem.1 ho n j (by omega) hjl h1
    rw [(List.getElem?_eq_some_iff.1 hy).2, (List.getElem?_eq_some_iff.1 hj).2] at h3
    rw [befH, h2] at h3
    cases h3
set_option maxHeartbeats 6400000 in
theorem without_any (a : Option Addr) (c : Nat) (l : List He) (h : He) (w : World) (hs : Hl w a c l) (hm : h ∈ l) (hl : l.length ≤ 100000) (ho : Ord l) :
    Calls Tryz.prog 45 #[.slice a l.length c, h.ptr] w fun e w' => ∃ v', e = .returned v' ∧ w'.ownsRow 0 84 1 v' (delH h.s h.i l).length (ptrs (delH h.s h.i l)) ∧ Chg w w' (fun k => (Value.slice a l.length c).ownBlock = some k) ∧ (∀ k, v'.ownBlock = some k → (Value.slice a l.length c).ownBlock = some k) := by
  have hne : l ≠ [] := fun e => by rw [e] at hm; cases hm
  obtain ⟨g, cur, rfl, _⟩ := rw_of_hl hs hne
  have HS : Hid (Hl w (some ⟨g, 0, none⟩) c l) := hs
  have HH : Hid (HdAt w h) := hs.2 h hm
  have HO : Hid (Ord l) := ho
  have HM : Hid (h ∈ l) := hm
  have HN : Hid (l ≠ []) := hne
  clear hs ho hm hne
  go_enter Tryz.func45, Tryz.ntmps45
  go_wp2_with (first
    | (go_at_call 32; refine (tag_any h w HH.out).mono ?_; rintro e w1 ⟨rfl, hb1⟩
       have HB1 : Hid (Below w.heap.size w w1) := hb1
       clear hb1)
    | (go_at_call 43; refine (find_any _ c l h.s h.i w1 (HS.out.below HB1.out) hl HO.out).mono ?_; rintro e w2 ⟨n, rfl, hst, hb2⟩
       have HB2 : Hid (Below w.heap.size w w2) := xtrans2 HB1.out hb2
       have HX : Hid _ := stood_at HO.out HM.out hst
       have hnl : n < l.length := (List.getElem?_eq_some_iff.1 HX.out).1
       have hwr : IntKind.i64.wrap ((n : Int) + 1) = (n : Int) + 1 := by rw [IntKind.wrap_i64]; omega
       clear hst hb2)
    | fail)
  obtain ⟨g', cur', e', hr⟩ := rw_of_hl (HS.out.below HB2.out) HN.out
  cases e'
  refine (delete_any g c n l cur' w2 hr hnl).mono ?_
  rintro e w3 ⟨rfl, ⟨cur3, h3⟩, hc3⟩
  have HO3 : Hid _ := h3
  have HC3 : Hid _ := hc3
  clear h3 hc3 hr
  go_wp2_with fail
  go_ret
  have he := del_at HO.out HX.out
  have hlen : (delH h.s h.i l).length = l.length - 1 := by have := del_len HO.out HM.out; omega
  refine ⟨_, rfl, ?_, (Chg.beh HB2.out HC3.out).mono (fun k _ e => by rw [e]; rfl), fun k hk => hk⟩
  have h5 := HO3.out.owns (base := 0) (Nat.zero_le _)
  rw [he] at h5
  rw [hlen] at h5 ⊢
  exact h5
end Go.Proofs.YtcoicoijllpgnaaGreatDoor
