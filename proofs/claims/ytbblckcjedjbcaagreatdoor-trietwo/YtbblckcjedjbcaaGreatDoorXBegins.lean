/-
  heraldlaw9: begins.
-/
import Derived.Test.YtbblckcjedjbcaaGreatDoorXBegin
namespace Go.Proofs.YtbblckcjedjbcaaGreatDoor
open Go.RowKit Go.Maps
set_option linter.unusedVariables false
set_option linter.unusedSimpArgs false

theorem AtE.low {w w' : World} {K K' : Nat → Prop} {base : Nat} (h : AtE w w' K K') (hK : ∀ k, K k → base ≤ k) (hB : base ≤ w.heap.size) : Below base w w' ∧ ∀ k, K' k → base ≤ k :=
  ⟨h.chg.below hB (fun k _ e => hK k e), fun k hk => (h.new k hk).elim (hK k) (fun e => Nat.le_trans hB e)⟩
def oA : On := ⟨1, 2, ⟨#[47, 97]⟩, 2, 0⟩
def oB : On := ⟨2, 7, ⟨#[47, 97, 47, 98, 47, 99]⟩, 1, 0⟩
def oC : On := ⟨1, 2, ⟨#[47, 120]⟩, 1, 0⟩
theorem addC_A : addC [] oA = 0 := by kernel_rfl
theorem addC_B : addC [oA] oB = 0 := by kernel_rfl
theorem addC_C : addC [oA, oB] oC = 90 := by kernel_rfl
theorem ins_A : insO oA [] = [oA] := by kernel_rfl
theorem ins_B : insO oB [oA] = [oA, oB] := by kernel_rfl
theorem mat_AB : matO [oA, oB] 9 3 ⟨#[47, 97, 47, 98]⟩ = [(1, 2)] := by kernel_rfl
theorem siz_AB : sizO [oA, oB] = 4 := by kernel_rfl
/-- A trie of the law's own: all of it is new. -/
structure Own9 (w w' : World) (K : Nat → Prop) (B : Nat) (L : List On) : Prop where
  at' : At w' K B L
  low : ∀ k, K k → w.heap.size ≤ k
  bel : Below w.heap.size w w'
theorem Own9.add {w w1 w2 : World} {K K' : Nat → Prop} {B : Nat} {L L' : List On} (h : Own9 w w1 K B L) (hA : At w2 K' B L') (hE : AtE w1 w2 K K') : Own9 w w2 K' B L' := by
  obtain ⟨h1, h2⟩ := hE.low h.low h.bel.size
  exact ⟨hA, h2, h.bel.trans h1⟩
theorem Own9.bel6 {w w1 w2 : World} {K : Nat → Prop} {B : Nat} {L : List On} {o : Obj} (h : Own9 w w1 K B L) (hb : Below (w1.alloc o).heap.size (w1.alloc o) w2) : Own9 w w2 K B L := by
  have h1 : Below w1.heap.size w1 w2 := xtrans2 ((Below.refl _ _).alloc (Nat.le_refl _) _) hb
  exact ⟨h.at'.below h1, h.low, xtrans2 h.bel h1⟩
theorem ts_one (w : World) (s i : Int) : TsAt (w.alloc (.cells #[.int .i64 s, .int .i64 i] 34)) (.slice (some ⟨w.heap.size, 0, none⟩) 1 1) [(s, i)] :=
  ⟨rfl, .inr ⟨w.heap.size, 1, #[.int .i64 s, .int .i64 i], rfl, Nat.zero_le _, heap_alloc_new _ _, Nat.le_refl _, by unfold maxLen; omega, rfl, rfl⟩⟩
set_option maxHeartbeats 16000000 in
set_option maxRecDepth 100000 in
theorem begins_any (w : World) (hg : Ground w) :
    Calls Tryz.prog 9 #[] w fun e w' => e = .returned (.bool true) ∧ Below w.heap.size w w' := by
  have HG : Hid (Ground w) := hg
  have HA1 : Hid (∀ w1 K, Own9 w w1 K w.heap.size [] → Calls Tryz.prog 16 #[ndV w.heap.size, .int .i64 1, watV 2 ⟨#[47, 97]⟩ 2 0] w1 fun e w' => e = .returned (.int .i64 0) ∧ ∃ K', Own9 w w' K' w.heap.size [oA]) := fun w1 K h => by
    refine (addA w1 K w.heap.size [] oA h.at' (hg.below h.bel) (by simp) (by unfold wfI; decide)).mono ?_
    rintro e w' ⟨he, K', hA, hE⟩
    rw [addC_A] at he hA
    rw [if_pos rfl, ins_A] at hA
    exact ⟨he, K', h.add hA hE⟩
  have HA2 : Hid (∀ w1 K, Own9 w w1 K w.heap.size [oA] → Calls Tryz.prog 16 #[ndV w.heap.size, .int .i64 2, watV 7 ⟨#[47, 97, 47, 98, 47, 99]⟩ 1 0] w1 fun e w' => e = .returned (.int .i64 0) ∧ ∃ K', Own9 w w' K' w.heap.size [oA, oB]) := fun w1 K h => by
    refine (addA w1 K w.heap.size [oA] oB h.at' (hg.below h.bel) (by simp) (by unfold wfI; decide)).mono ?_
    rintro e w' ⟨he, K', hA, hE⟩
    rw [addC_B] at he hA
    rw [if_pos rfl, ins_B] at hA
    exact ⟨he, K', h.add hA hE⟩
  have HA3 : Hid (∀ w1 K, Own9 w w1 K w.heap.size [oA, oB] → Calls Tryz.prog 16 #[ndV w.heap.size, .int .i64 1, watV 2 ⟨#[47, 120]⟩ 1 0] w1 fun e w' => e = .returned (.int .i64 90) ∧ ∃ K', Own9 w w' K' w.heap.size [oA, oB]) := fun w1 K h => by
    refine (addA w1 K w.heap.size [oA, oB] oC h.at' (hg.below h.bel) (by simp) (by unfold wfI; decide)).mono ?_
    rintro e w' ⟨he, K', hA, hE⟩
    rw [addC_C] at he hA
    rw [if_neg (by decide)] at hA
    exact ⟨he, K', h.add hA hE⟩
  have HMA : Hid (∀ w1 K, Own9 w w1 K w.heap.size [oA, oB] → Calls Tryz.prog 13 #[ndV w.heap.size, .int .i64 9, chV 3 ⟨#[47, 97, 47, 98]⟩ ⟨#[]⟩ 0] w1 fun e w' => ∃ v, e = .returned v ∧ TsAt w' v [(1, 2)] ∧ Own9 w w' K w.heap.size [oA, oB]) := fun w1 K h => by
    refine (matchA w1 K w.heap.size [oA, oB] 9 3 ⟨#[47, 97, 47, 98]⟩ ⟨#[]⟩ 0 h.at' (hg.below h.bel) (by simp)).mono ?_
    rintro e w' ⟨v, he, ho, hb⟩
    rw [mat_AB] at ho
    exact ⟨v, he, owns_lo ho (Nat.zero_le _), h.at'.below hb, h.low, xtrans2 h.bel hb⟩
  have HSI : Hid (∀ w1 K, Own9 w w1 K w.heap.size [oA, oB] → Calls Tryz.prog 27 #[ndV w.heap.size] w1 fun e w' => e = .returned (.int .i64 4) ∧ Below w.heap.size w w') := fun w1 K h => by
    refine (sizeA w1 K w.heap.size [oA, oB] h.at' (by simp)).mono ?_
    rintro e w' ⟨he, hb⟩
    rw [siz_AB] at he
    exact ⟨he, xtrans2 h.bel hb⟩
  clear hg
  go_enter Tryz.func9, Tryz.ntmps9
  go_upto_region 5 with (first
    | (go_at_call 15; refine (newA w).mono ?_; rintro e w1 ⟨rfl, hw1⟩
       have HO0 : Hid (Own9 w w1 (fun k => k = w.heap.size) w.heap.size []) := by
         subst hw1
         exact ⟨At.zero (heap_alloc_new _ _), fun k hk => by rw [hk]; exact Nat.le_refl _, (Below.refl _ _).alloc (Nat.le_refl _) _⟩
       clear hw1)
    | (go_at_call 16; refine Calls.mono (HA1.out w1 _ HO0.out) ?_; rintro e w2 ⟨rfl, K2, h2⟩; (have HO2 : Hid _ := h2); clear h2)
    | fail)
  go_upto_region 6 with (first | (go_at_call 16; refine Calls.mono (HA2.out w2 _ HO2.out) ?_; rintro e w3 ⟨rfl, K3, h3⟩; (have HO3 : Hid _ := h3); clear h3) | fail)
  go_upto_region 7 with (first | (go_at_call 16; refine Calls.mono (HA3.out w3 _ HO3.out) ?_; rintro e w4 ⟨rfl, K4, h4⟩; (have HO4 : Hid _ := h4); clear h4) | fail)
  go_upto_region 8 with (first | (go_at_call 13; refine Calls.mono (HMA.out w4 _ HO4.out) ?_; rintro e w5 ⟨v5, rfl, ht5, h5⟩; (have HO5 : Hid _ := h5); (have HT5 : Hid (TsAt w5 v5 [(1, 2)]) := ht5); clear h5 ht5) | fail)
  go_wp2_with fail
  refine (sameTags_any v5 (.slice (some ⟨w5.heap.size, 0, none⟩) 1 1) [(1, 2)] [(1, 2)] (w5.alloc (.cells #[.int .i64 1, .int .i64 2] 34)) (HT5.out.below ((Below.refl _ _).alloc (Nat.le_refl _) _)) (ts_one w5 1 2) (by simp)).mono ?_
  rintro e w6 ⟨he6, hb6⟩
  have HO6 : Hid _ := HO5.out.bel6 hb6
  have he6' : e = .returned (.bool true) := he6
  subst he6'
  clear hb6 he6
  go_wp2_with fail
  refine Calls.mono (HSI.out w6 _ HO6.out) ?_
  rintro e w7 ⟨rfl, hb7⟩
  go_wp2_with fail
  go_ret
  exact ⟨rfl, hb7⟩
end Go.Proofs.YtbblckcjedjbcaaGreatDoor
