import Derived.Test.YtbamkdohaofgdaaGreatDoorWRead
import Derived.Laws.BytesArg
import Derived.Test.YtbamkdohaofgdaaGreatDoorCCheck
import Derived.Test.YtbamkdohaofgdaaGreatDoorSTurn
import Derived.WalkLawsBesides
namespace Go.Proofs.YtbamkdohaofgdaaGreatDoor.W
open Go.RowKit

/-- What ReadText answers. -/
def rtAny (at' : Int) (xs : List Int) : ByteArray × Int × Int :=
  if (rdAny at' xs).2.2 ≠ 0 then (ByteArray.empty, 0, (rdAny at' xs).2.2) else
  if 262144 < (rdAny at' xs).1 then (ByteArray.empty, 0, 2) else
  if xs.length - (rdAny at' xs).2.1 < (rdAny at' xs).1 then (ByteArray.empty, 0, 21) else
  (strOfNums ((xs.drop (rdAny at' xs).2.1.toNat).take (rdAny at' xs).1.toNat), (rdAny at' xs).2.1 + (rdAny at' xs).1, 0)

theorem rdAny_ok {at' : Int} {xs : List Int} {n b : Int} (hb : Byt xs) (h : rdAny at' xs = (n, b, 0)) : 0 ≤ at' ∧ 0 ≤ n ∧ n ≤ 2147483647 ∧ at' < b ∧ b ≤ xs.length ∧ xs.drop at'.toNat = numL n.toNat ++ xs.drop b.toNat ∧ b = at' + (numL n.toNat).length := by
  unfold rdAny at h
  split at h
  · rename_i hat
    obtain ⟨y, l', e1, e2, e3, e4, e5⟩ := rd_only at' 5 0 0 _ n b (hb.drop _) h
    simp only [Nat.pow_zero, Nat.mul_one, Nat.zero_add] at e1 e5
    have hl : (xs.drop at'.toNat).length = (numL y).length + l'.length := by rw [e2, List.length_append]
    rw [List.length_drop] at hl
    have h1 := (numL_len (v := y) 5 (by omega) (by omega)).2
    have ey : n.toNat = y := by omega
    rw [ey]
    have eb : b.toNat = at'.toNat + (numL y).length := by omega
    refine ⟨hat.1, by omega, by omega, by omega, by omega, ?_, by omega⟩
    rw [e2, eb, ← List.drop_drop, e2, List.drop_left]
  · simp at h

theorem bytes_conv {w : World} {b o : Nat} {xs : List Int} {B N c : Nat} (hs : ∀ (j : Nat) (z : Int), xs[j]? = some z → w.cell? ⟨b, o + j, none⟩ = some (.int .u8 z)) (h : B + N ≤ xs.length) :
    (convert 47 9 (.slice (some ⟨b, o + B, none⟩) N c)).run Tryz.prog w = .ok (.string (strOfNums ((xs.drop B).take N))) w := by
  refine run_convert_bytes_arg _ 47 5 Tryz.underlying47 Tryz.underlying5 b (o + B) N c ((xs.drop B).take N) (by rw [List.length_take, List.length_drop]; omega) (fun i hi => ?_) 9 Tryz.underlying9
  have hx : xs[B + i]? = some (xs[B + i]'(by omega)) := List.getElem?_eq_getElem (by omega)
  rw [Nat.add_assoc, hs (B + i) _ hx, List.getD_eq_getElem?_getD, List.getElem?_take, if_pos hi, List.getElem?_drop, hx]
  rfl

set_option maxHeartbeats 3200000 in
set_option maxRecDepth 100000 in
theorem readText_any (a : Option Addr) (c : Nat) (xs : List Int) (at' : Int) (w : World) (hx : Bys w a xs) (hb : Byt xs) (hm : xs.length ≤ 1000000) (hc : xs.length ≤ c) (hcm : c ≤ maxLen) :
    Calls Tryz.prog 89 #[.slice a xs.length c, .int .i64 at'] w fun e w' => e = .returned (.tuple #[.string (rtAny at' xs).1, .int .i64 (rtAny at' xs).2.1, .int .i64 (rtAny at' xs).2.2]) ∧ w' = w := by
  unfold maxLen at hcm
  have HR : Hid _ := readNumber_any a c xs at' w hx hb hm
  obtain ⟨n, b, e, he⟩ : ∃ n b e, rdAny at' xs = (n, b, e) := ⟨_, _, _, rfl⟩
  have HT : Hid (rtAny at' xs = if e ≠ 0 then (ByteArray.empty, 0, e) else if 262144 < n then (ByteArray.empty, 0, 2) else if xs.length - b < n then (ByteArray.empty, 0, 21) else (strOfNums ((xs.drop b.toNat).take n.toNat), b + n, 0)) := by
    show rtAny at' xs = _
    unfold rtAny
    rw [he]
  rw [he] at HR
  by_cases h0 : e = 0
  · subst h0
    have hok := rdAny_ok hb he
    obtain ⟨N, rfl⟩ := Int.eq_ofNat_of_zero_le hok.2.1
    obtain ⟨B, rfl⟩ := Int.eq_ofNat_of_zero_le (show 0 ≤ b by omega)
    simp only [ne_eq, not_true_eq_false, if_false, Int.toNat_natCast] at HT
    have hB : (B : Int) ≤ (xs.length : Int) := hok.2.2.2.2.1
    have hN : N ≤ 2147483647 := by omega
    have hat1 : 0 ≤ at' ∧ at' < (B : Int) := ⟨hok.1, hok.2.2.2.1⟩
    rcases hx with rfl | ⟨bb, o, rfl, h1, hs⟩
    · simp at hB; omega
    · have HS : Hid _ := hs
      clear hok he hs hb h1
      by_cases h2 : 262144 < N
      · have h2' : (262144 : Int) < (N : Int) := by omega
        have HX : Hid (rtAny at' xs = (ByteArray.empty, 0, 2)) := by have := HT.out; rw [if_pos h2'] at this; exact this
        rw [HX.out]
        clear HT HX
        go_enter Tryz.func89, Tryz.ntmps89
        go_wp2_with (first | (go_at_call 88; refine Calls.mono HR.out ?_; rintro e w1 ⟨rfl, rfl⟩) | fail)
        go_ret3
        exact ⟨rfl, rfl⟩
      · have h2' : ¬ (262144 : Int) < (N : Int) := by omega
        by_cases h3 : xs.length < B + N
        · have h3' : (xs.length : Int) - (B : Int) < (N : Int) := by omega
          have HX : Hid (rtAny at' xs = (ByteArray.empty, 0, 21)) := by have := HT.out; rw [if_neg h2', if_pos h3'] at this; exact this
          rw [HX.out]
          clear HT HX
          go_enter Tryz.func89, Tryz.ntmps89
          go_wp2_with (first | (go_at_call 88; refine Calls.mono HR.out ?_; rintro e w1 ⟨rfl, rfl⟩) | fail)
          go_ret3
          exact ⟨rfl, rfl⟩
        · have h3' : ¬ (xs.length : Int) - (B : Int) < (N : Int) := by omega
          have HX : Hid (rtAny at' xs = (strOfNums ((xs.drop B).take N), (B : Int) + (N : Int), 0)) := by have := HT.out; rw [if_neg h2', if_neg h3'] at this; exact this
          rw [HX.out]
          by_cases hBc : B < c
          · have hconv := bytes_conv (B := B) (N := N) (c := c - B) HS.out (by omega)
            generalize strOfNums ((xs.drop B).take N) = S at hconv ⊢
            have hle1 : (B : Int) + (N : Int) ≤ (c : Int) := by omega
            have hle2 : (B : Int) ≤ (B : Int) + (N : Int) := by omega
            have hne : ¬ (c : Int) - (B : Int) = 0 := by omega
            have hne' : ¬ c - B = 0 := by omega
            clear HT HX
            go_enter Tryz.func89, Tryz.ntmps89
            go_wp2_with (first | (go_at_call 88; refine Calls.mono HR.out ?_; rintro e w1 ⟨rfl, rfl⟩) | fail)
            go_ret3
            exact ⟨rfl, rfl⟩
          · obtain rfl : B = c := by omega
            obtain rfl : N = 0 := by omega
            have hconv := bytes_conv (B := 0) (N := 0) (c := 0) HS.out (by omega)
            rw [List.take_zero] at hconv
            rw [List.take_zero]
            rw [Nat.add_zero] at hconv
            generalize strOfNums [] = S at hconv ⊢
            clear HT HX
            go_enter Tryz.func89, Tryz.ntmps89
            go_wp2_with (first | (go_at_call 88; refine Calls.mono HR.out ?_; rintro e w1 ⟨rfl, rfl⟩) | fail)
            go_ret3
            exact ⟨by simp, rfl⟩
  · have hne : (e != 0) = true := by simpa using h0
    have HX : Hid (rtAny at' xs = (ByteArray.empty, 0, e)) := by have := HT.out; rw [if_pos h0] at this; exact this
    rw [HX.out]
    clear HT HX he hx hb
    go_enter Tryz.func89, Tryz.ntmps89
    go_wp2_with (first | (go_at_call 88; refine Calls.mono HR.out ?_; rintro e w1 ⟨rfl, rfl⟩) | fail)
    go_ret3
    exact ⟨rfl, rfl⟩
end Go.Proofs.YtbamkdohaofgdaaGreatDoor.W
namespace Go.Proofs.YtbamkdohaofgdaaGreatDoor.W
open Go.RowKit
set_option linter.unusedVariables false
set_option linter.unusedSimpArgs false

abbrev PN : List PanicEntry := [{ v := .iface 124 (.agg #[]), recovered := false }]
theorem must_true (w : World) : Calls Tryz.prog 29 #[.bool true] w fun e w' => e = .returned (.tuple #[]) ∧ w' = w := by
  go_enter Tryz.func29, Tryz.ntmps29
  go_wp2_with fail
  exact bodyPost_end (results_none rfl _ _ _) rfl ⟨rfl, rfl⟩
theorem must_false (w : World) : Calls Tryz.prog 29 #[.bool false] w fun e w' => e = .panicked PN ∧ w' = w := by
  go_enter Tryz.func29, Tryz.ntmps29
  go_wp2_with fail
  exact ⟨rfl, rfl, rfl⟩
/-- A reader that stands there. -/
abbrev RdAt (w : World) (br : Nat) (a : Option Addr) (n c : Nat) (at' : Int) : Prop := w.heap[br]? = some (.cells #[.slice a n c, .int .i64 at'] 87 (0, 0))
theorem cells_2 {W : World} {b : Nat} {t : TypeId} {x0 x1 : Value} (h : W.heap[b]? = some (.cells #[x0, x1] t (0, 0))) : W.cell? ⟨b, 0, none⟩ = some x0 ∧ W.cell? ⟨b, 1, none⟩ = some x1 := by
  simp [World.cell?, h]
theorem free_2 {W : World} {b : Nat} {t : TypeId} {x0 x1 : Value} (h : W.heap[b]? = some (.cells #[x0, x1] t (0, 0))) (o : Nat) : W.frozen? ⟨b, o, none⟩ = false := by
  simp [World.frozen?, h]
theorem _root_.Go.Proofs.YtbamkdohaofgdaaGreatDoor.Chg.drew {w w' : World} {S : Nat → Prop} (h : Chg w w' S) : Chg w w'.drew S := ⟨h.os, h.tape, h.output, h.size, h.block⟩
set_option maxHeartbeats 1600000 in
theorem rNumber_ok (br : Nat) (a : Option Addr) (c : Nat) (xs : List Int) (at' v nx : Int) (w : World) (h : RdAt w br a xs.length c at') (hx : Bys w a xs) (hb : Byt xs) (hm : xs.length ≤ 1000000) (hr : rdAny at' xs = (v, nx, 0)) :
    Calls Tryz.prog 58 #[.pointer (some ⟨br, 0, none⟩)] w fun e w' => e = .returned (.int .i64 v) ∧ RdAt w' br a xs.length c nx ∧ Chg w w' (fun j => j = br) := by
  have HR : Hid (∀ w', Below w.heap.size w w' → Calls Tryz.prog 88 #[.slice a xs.length c, .int .i64 at'] w' fun e w'' => e = .returned (.tuple #[.int .i64 v, .int .i64 nx, .int .i64 0]) ∧ w'' = w') := fun w' hb' => by
    have := readNumber_any a c xs at' w' (hx.below hb') hb hm
    rw [hr] at this
    exact this
  have HB : Hid (RdAt w br a xs.length c at') := h
  obtain ⟨c0, c1⟩ := cells_2 h
  have f2 := free_2 h
  clear h hx hb hm hr
  go_enter Tryz.func58, Tryz.ntmps58
  go_wp2_with fail
  go_region_held3 (fun w' => w'.cell? ⟨br, 0, none⟩ = some (.slice a xs.length c) ∧ w'.cell? ⟨br, 1, none⟩ = some (.int .i64 at')) (first | exact ⟨c0, c1⟩ | go_keep)
    (first
    | (go_at_call 88; refine (HR.out _ (below_drew (Below.refl _ _))).mono ?_; rintro e w1 ⟨rfl, rfl⟩)
    | fail)
  go_wp2_with fail
  refine (must_true _).mono ?_
  rintro e w2 ⟨rfl, rfl⟩
  go_wp2_with fail
  go_ret
  exact ⟨rfl, same_blk (w := World.drew w) HB.out rfl, (Chg.drew (Chg.refl _ _)).trans (Chg.set _ _ _)⟩
set_option maxHeartbeats 1600000 in
theorem rNumber_bad (br : Nat) (a : Option Addr) (c : Nat) (xs : List Int) (at' : Int) (w : World) (h : RdAt w br a xs.length c at') (hx : Bys w a xs) (hb : Byt xs) (hm : xs.length ≤ 1000000) (hr : (rdAny at' xs).2.2 ≠ 0) :
    Calls Tryz.prog 58 #[.pointer (some ⟨br, 0, none⟩)] w fun e w' => e = .panicked PN ∧ Below w.heap.size w w' := by
  obtain ⟨v, nx, cd, hq⟩ : ∃ v nx cd, rdAny at' xs = (v, nx, cd) := ⟨_, _, _, rfl⟩
  rw [hq] at hr
  have hcd : (cd == 0) = false := by simpa using hr
  have HR : Hid (∀ w', Below w.heap.size w w' → Calls Tryz.prog 88 #[.slice a xs.length c, .int .i64 at'] w' fun e w'' => e = .returned (.tuple #[.int .i64 v, .int .i64 nx, .int .i64 cd]) ∧ w'' = w') := fun w' hb' => by
    have := readNumber_any a c xs at' w' (hx.below hb') hb hm
    rw [hq] at this
    exact this
  have HB : Hid (RdAt w br a xs.length c at') := h
  obtain ⟨c0, c1⟩ := cells_2 h
  clear h hx hb hm hr hq
  go_enter Tryz.func58, Tryz.ntmps58
  go_wp2_with fail
  go_region_held3 (fun w' => w'.cell? ⟨br, 0, none⟩ = some (.slice a xs.length c) ∧ w'.cell? ⟨br, 1, none⟩ = some (.int .i64 at')) (first | exact ⟨c0, c1⟩ | go_keep)
    (first
    | (go_at_call 88; refine (HR.out _ (below_drew (Below.refl _ _))).mono ?_; rintro e w1 ⟨rfl, rfl⟩)
    | fail)
  go_wp2_with fail
  refine (must_false _).mono ?_
  rintro e w2 ⟨rfl, rfl⟩
  go_wp2_with fail
  exact ⟨rfl, rfl, below_drew (Below.refl _ _)⟩
set_option maxHeartbeats 1600000 in
theorem rText_ok (br : Nat) (a : Option Addr) (c : Nat) (xs : List Int) (at' : Int) (v : ByteArray) (nx : Int) (w : World) (h : RdAt w br a xs.length c at') (hx : Bys w a xs) (hb : Byt xs) (hm : xs.length ≤ 1000000) (hc : xs.length ≤ c) (hcm : c ≤ maxLen) (hr : rtAny at' xs = (v, nx, 0)) :
    Calls Tryz.prog 59 #[.pointer (some ⟨br, 0, none⟩)] w fun e w' => e = .returned (.string v) ∧ RdAt w' br a xs.length c nx ∧ Chg w w' (fun j => j = br) := by
  have HR : Hid (∀ w', Below w.heap.size w w' → Calls Tryz.prog 89 #[.slice a xs.length c, .int .i64 at'] w' fun e w'' => e = .returned (.tuple #[.string v, .int .i64 nx, .int .i64 0]) ∧ w'' = w') := fun w' hb' => by
    have := readText_any a c xs at' w' (hx.below hb') hb hm hc hcm
    rw [hr] at this
    exact this
  have HB : Hid (RdAt w br a xs.length c at') := h
  obtain ⟨c0, c1⟩ := cells_2 h
  have f2 := free_2 h
  clear h hx hb hm hc hcm hr
  go_enter Tryz.func59, Tryz.ntmps59
  go_wp2_with fail
  go_region_held3 (fun w' => w'.cell? ⟨br, 0, none⟩ = some (.slice a xs.length c) ∧ w'.cell? ⟨br, 1, none⟩ = some (.int .i64 at')) (first | exact ⟨c0, c1⟩ | go_keep)
    (first
    | (go_at_call 89; refine (HR.out _ (below_drew (Below.refl _ _))).mono ?_; rintro e w1 ⟨rfl, rfl⟩)
    | fail)
  go_wp2_with fail
  refine (must_true _).mono ?_
  rintro e w2 ⟨rfl, rfl⟩
  go_wp2_with fail
  go_ret
  exact ⟨rfl, same_blk (w := World.drew w) HB.out rfl, (Chg.drew (Chg.refl _ _)).trans (Chg.set _ _ _)⟩
set_option maxHeartbeats 1600000 in
theorem rText_bad (br : Nat) (a : Option Addr) (c : Nat) (xs : List Int) (at' : Int) (w : World) (h : RdAt w br a xs.length c at') (hx : Bys w a xs) (hb : Byt xs) (hm : xs.length ≤ 1000000) (hc : xs.length ≤ c) (hcm : c ≤ maxLen) (hr : (rtAny at' xs).2.2 ≠ 0) :
    Calls Tryz.prog 59 #[.pointer (some ⟨br, 0, none⟩)] w fun e w' => e = .panicked PN ∧ Below w.heap.size w w' := by
  obtain ⟨v, nx, cd, hq⟩ : ∃ v nx cd, rtAny at' xs = (v, nx, cd) := ⟨_, _, _, rfl⟩
  rw [hq] at hr
  have hcd : (cd == 0) = false := by simpa using hr
  have HR : Hid (∀ w', Below w.heap.size w w' → Calls Tryz.prog 89 #[.slice a xs.length c, .int .i64 at'] w' fun e w'' => e = .returned (.tuple #[.string v, .int .i64 nx, .int .i64 cd]) ∧ w'' = w') := fun w' hb' => by
    have := readText_any a c xs at' w' (hx.below hb') hb hm hc hcm
    rw [hq] at this
    exact this
  have HB : Hid (RdAt w br a xs.length c at') := h
  obtain ⟨c0, c1⟩ := cells_2 h
  clear h hx hb hm hc hcm hr hq
  go_enter Tryz.func59, Tryz.ntmps59
  go_wp2_with fail
  go_region_held3 (fun w' => w'.cell? ⟨br, 0, none⟩ = some (.slice a xs.length c) ∧ w'.cell? ⟨br, 1, none⟩ = some (.int .i64 at')) (first | exact ⟨c0, c1⟩ | go_keep)
    (first
    | (go_at_call 89; refine (HR.out _ (below_drew (Below.refl _ _))).mono ?_; rintro e w1 ⟨rfl, rfl⟩)
    | fail)
  go_wp2_with fail
  refine (must_false _).mono ?_
  rintro e w2 ⟨rfl, rfl⟩
  go_wp2_with fail
  exact ⟨rfl, rfl, below_drew (Below.refl _ _)⟩
end Go.Proofs.YtbamkdohaofgdaaGreatDoor.W
namespace Go.Proofs.YtbamkdohaofgdaaGreatDoor.W
open Go.RowKit
set_option linter.unusedVariables false
set_option linter.unusedSimpArgs false

/-- One node at a place of the bytes. -/
def rdOne (xs : List Int) (at' : Int) : Option (SeenT × Int) :=
  if (rtAny at' xs).2.2 = 0 then
    if (rtAny (rtAny at' xs).2.1 xs).2.2 = 0 then
      if (rdAny (rtAny (rtAny at' xs).2.1 xs).2.1 xs).2.2 = 0 then
        some (⟨(rtAny at' xs).1, (rtAny (rtAny at' xs).2.1 xs).1, (rdAny (rtAny (rtAny at' xs).2.1 xs).2.1 xs).1⟩, (rdAny (rtAny (rtAny at' xs).2.1 xs).2.1 xs).2.1)
      else none
    else none
  else none
theorem rdOne_1 {xs : List Int} {at' : Int} (h : (rtAny at' xs).2.2 ≠ 0) : rdOne xs at' = none := by unfold rdOne; rw [if_neg h]
theorem rdOne_2 {xs : List Int} {at' a1 : Int} {p : ByteArray} (h : rtAny at' xs = (p, a1, 0)) (h2 : (rtAny a1 xs).2.2 ≠ 0) : rdOne xs at' = none := by unfold rdOne; simp [h, h2]
theorem rdOne_3 {xs : List Int} {at' a1 a2 : Int} {p d : ByteArray} (h : rtAny at' xs = (p, a1, 0)) (h2 : rtAny a1 xs = (d, a2, 0)) (h3 : (rdAny a2 xs).2.2 ≠ 0) : rdOne xs at' = none := by unfold rdOne; simp [h, h2, h3]
theorem rdOne_4 {xs : List Int} {at' a1 a2 v a3 : Int} {p d : ByteArray} (h : rtAny at' xs = (p, a1, 0)) (h2 : rtAny a1 xs = (d, a2, 0)) (h3 : rdAny a2 xs = (v, a3, 0)) : rdOne xs at' = some (⟨p, d, v⟩, a3) := by unfold rdOne; simp [h, h2, h3]
def rdMany (xs : List Int) (at' : Int) : Nat → Option (List SeenT × Int)
  | 0 => some ([], at')
  | n + 1 => match rdMany xs at' n with
    | none => none
    | some r => match rdOne xs r.2 with
      | none => none
      | some s => some (r.1 ++ [s.1], s.2)
theorem rdMany_none {xs : List Int} {at' : Int} {n m : Nat} (h : rdMany xs at' n = none) (hm : n ≤ m) : rdMany xs at' m = none := by
  induction m with
  | zero =>
    obtain rfl : n = 0 := by omega
    exact h
  | succ m ih =>
    by_cases e : n = m + 1
    · subst e; exact h
    · simp only [rdMany, ih (by omega)]
theorem rdMany_no {xs : List Int} {at' a1 : Int} {n : Nat} {l : List SeenT} (h : rdMany xs at' n = some (l, a1)) (h1 : rdOne xs a1 = none) : rdMany xs at' (n + 1) = none := by simp only [rdMany, h, h1]
theorem rdMany_step {xs : List Int} {at' a1 a2 : Int} {n : Nat} {l : List SeenT} {s : SeenT} (h : rdMany xs at' n = some (l, a1)) (h1 : rdOne xs a1 = some (s, a2)) : rdMany xs at' (n + 1) = some (l ++ [s], a2) := by simp only [rdMany, h, h1]
theorem rdMany_len {xs : List Int} {at' : Int} : ∀ {n : Nat} {l : List SeenT} {a1 : Int}, rdMany xs at' n = some (l, a1) → l.length = n
  | 0, l, a1, h => by simp only [rdMany, Option.some.injEq, Prod.mk.injEq] at h; rw [← h.1]; rfl
  | n + 1, l, a1, h => by
    simp only [rdMany] at h
    split at h
    · cases h
    · rename_i r hr
      split at h
      · cases h
      · rename_i s hs
        simp only [Option.some.injEq, Prod.mk.injEq] at h
        have := rdMany_len (l := r.1) (a1 := r.2) hr
        rw [← h.1, List.length_append, this]
        rfl
/-- What the bytes say ahead of the nodes: stamp, place, kind, count, and where the nodes begin. -/
structure HeadT where
  st : Int
  p : ByteArray
  k : Int
  n : Int
  at' : Int
def rdHead (xs : List Int) : Option HeadT :=
  if (rdAny 0 xs).2.2 = 0 then
    if (rtAny (rdAny 0 xs).2.1 xs).2.2 = 0 then
      if (rdAny (rtAny (rdAny 0 xs).2.1 xs).2.1 xs).2.2 = 0 then
        if (rdAny (rdAny (rtAny (rdAny 0 xs).2.1 xs).2.1 xs).2.1 xs).2.2 = 0 then
          some ⟨(rdAny 0 xs).1, (rtAny (rdAny 0 xs).2.1 xs).1, (rdAny (rtAny (rdAny 0 xs).2.1 xs).2.1 xs).1, (rdAny (rdAny (rtAny (rdAny 0 xs).2.1 xs).2.1 xs).2.1 xs).1, (rdAny (rdAny (rtAny (rdAny 0 xs).2.1 xs).2.1 xs).2.1 xs).2.1⟩
        else none
      else none
    else none
  else none
theorem rdHead_1 {xs : List Int} (h : (rdAny 0 xs).2.2 ≠ 0) : rdHead xs = none := by unfold rdHead; rw [if_neg h]
theorem rdHead_2 {xs : List Int} {st a1 : Int} (h : rdAny 0 xs = (st, a1, 0)) (h2 : (rtAny a1 xs).2.2 ≠ 0) : rdHead xs = none := by unfold rdHead; simp [h, h2]
theorem rdHead_3 {xs : List Int} {st a1 a2 : Int} {p : ByteArray} (h : rdAny 0 xs = (st, a1, 0)) (h2 : rtAny a1 xs = (p, a2, 0)) (h3 : (rdAny a2 xs).2.2 ≠ 0) : rdHead xs = none := by unfold rdHead; simp [h, h2, h3]
theorem rdHead_4 {xs : List Int} {st a1 a2 k a3 : Int} {p : ByteArray} (h : rdAny 0 xs = (st, a1, 0)) (h2 : rtAny a1 xs = (p, a2, 0)) (h3 : rdAny a2 xs = (k, a3, 0)) (h4 : (rdAny a3 xs).2.2 ≠ 0) : rdHead xs = none := by unfold rdHead; simp [h, h2, h3, h4]
theorem rdHead_5 {xs : List Int} {st a1 a2 k a3 n a4 : Int} {p : ByteArray} (h : rdAny 0 xs = (st, a1, 0)) (h2 : rtAny a1 xs = (p, a2, 0)) (h3 : rdAny a2 xs = (k, a3, 0)) (h4 : rdAny a3 xs = (n, a4, 0)) : rdHead xs = some ⟨st, p, k, n, a4⟩ := by unfold rdHead; simp [h, h2, h3, h4]
/-- What the bytes say: stamp, place, kind, nodes, and where they end. -/
structure SaysT where
  st : Int
  p : ByteArray
  k : Int
  l : List SeenT
  at' : Int
def rdShot (xs : List Int) : Option SaysT :=
  match rdHead xs with
  | none => none
  | some h => if 64 < h.n then none else match rdMany xs h.at' h.n.toNat with
    | none => none
    | some r => some ⟨h.st, h.p, h.k, r.1, r.2⟩
theorem rdShot_none {xs : List Int} (h : rdHead xs = none) : rdShot xs = none := by unfold rdShot; rw [h]
theorem rdShot_many {xs : List Int} {st k n a4 : Int} {p : ByteArray} (h : rdHead xs = some ⟨st, p, k, n, a4⟩) (hn : 64 < n) : rdShot xs = none := by unfold rdShot; rw [h]; simp only; rw [if_pos hn]
theorem rdShot_bad {xs : List Int} {st k a4 : Int} {n : Nat} {p : ByteArray} (h : rdHead xs = some ⟨st, p, k, (n : Int), a4⟩) (hm : rdMany xs a4 n = none) : rdShot xs = none := by
  unfold rdShot
  rw [h]
  simp only
  split
  · rfl
  · rw [Int.toNat_natCast, hm]
theorem rdShot_ok {xs : List Int} {st k a4 a5 : Int} {n : Nat} {p : ByteArray} {l : List SeenT} (h : rdHead xs = some ⟨st, p, k, (n : Int), a4⟩) (hn : n ≤ 64) (hm : rdMany xs a4 n = some (l, a5)) : rdShot xs = some ⟨st, p, k, l, a5⟩ := by
  unfold rdShot
  rw [h]
  simp only
  rw [if_neg (by omega), Int.toNat_natCast, hm]
theorem rd_nat {xs : List Int} {at' n nx : Int} (hb : Byt xs) (h : rdAny at' xs = (n, nx, 0)) : ∃ m : Nat, n = m ∧ m ≤ 2147483647 := by
  have := rdAny_ok hb h
  exact ⟨n.toNat, by omega, by omega⟩
/-- A triple by its parts. -/
theorem rd_split (at' : Int) (xs : List Int) : (rdAny at' xs).2.2 ≠ 0 ∨ ∃ v nx, rdAny at' xs = (v, nx, 0) := by
  by_cases h : (rdAny at' xs).2.2 = 0
  · exact .inr ⟨(rdAny at' xs).1, (rdAny at' xs).2.1, by rw [← h]⟩
  · exact .inl h
theorem rt_split (at' : Int) (xs : List Int) : (rtAny at' xs).2.2 ≠ 0 ∨ ∃ v nx, rtAny at' xs = (v, nx, 0) := by
  by_cases h : (rtAny at' xs).2.2 = 0
  · exact .inr ⟨(rtAny at' xs).1, (rtAny at' xs).2.1, by rw [← h]⟩
  · exact .inl h
end Go.Proofs.YtbamkdohaofgdaaGreatDoor.W
