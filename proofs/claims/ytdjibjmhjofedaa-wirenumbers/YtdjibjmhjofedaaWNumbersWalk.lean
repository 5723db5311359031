/-
  WireNumbers: the walk.
-/
import Derived.Test.YtdjibjmhjofedaaWRefNumber
namespace Go.Proofs.Ytdjibjmhjofedaa
open Go.RowKit

theorem num300 : numL 300 = [172, 2] := by rw [numL_big (by omega), numL_small (by omega)]; rfl

set_option maxHeartbeats 1600000 in
set_option maxRecDepth 100000 in
theorem numbers_walk (v : Int) (hv : -9223372036854775808 ≤ v ∧ v ≤ 9223372036854775807) (w : World) :
    Calls Try.prog 3 #[.int .i64 v] w fun e w' => e = .returned (.bool true) ∧ Below w.heap.size w w' := by
  have hlen : (if 0 ≤ v ∧ v ≤ 2147483647 then numL v.toNat else []).length ≤ maxLen := by
    split
    · have := (numL_len (v := v.toNat) 5 (by omega) (by omega)).1
      unfold maxLen
      omega
    · simp
  have HN : Hid _ := number_any v
  have HR : Hid _ := refNumber_any v
  have HV : Hid _ := hv
  generalize (if 0 ≤ v ∧ v ≤ 2147483647 then numL v.toNat else []) = ZS at HN HR hlen
  generalize (if 0 ≤ v ∧ v ≤ 2147483647 then (0 : Int) else 3) = code at HN HR
  clear hv
  go_enter Try.func3, Try.ntmps3
  go_wp2_with fail
  refine (HN.out _ HV.out).mono ?_
  rintro e w1 ⟨a1, c1, zs1, rfl, hz, ho1, hb1⟩
  obtain rfl := hz.symm
  have HO1 : Hid _ := ho1
  have HB1 : Hid _ := hb1
  clear ho1 hb1 hz
  go_wp2_with fail
  refine (HR.out _ HV.out).mono ?_
  rintro e w2 ⟨a2, c2, zs2, rfl, hz, ho2, hb2⟩
  obtain rfl := hz.symm
  have HO1' : Hid (Bys w2 a1 ZS) := by
    obtain ⟨a, c, hv, hL, _⟩ := bys_of_owns HO1.out
    simp only [Value.slice.injEq, true_and] at hv
    rw [hv.1]
    exact hL.below hb2
  have HO2 : Hid (Bys w2 a2 ZS) := by
    obtain ⟨a, c, hv, hL, _⟩ := bys_of_owns ho2
    simp only [Value.slice.injEq, true_and] at hv
    rw [hv.1]
    exact hL
  have HB2 : Hid _ := trans2 HB1.out hb2
  clear ho2 hb2 HO1 HB1 hz
  go_wp2_with fail
  refine (number_any 300 _ (by omega)).mono ?_
  rw [if_pos (by omega), if_pos (by omega), show (300 : Int).toNat = 300 by rfl, num300]
  rintro e w3 ⟨a3, c3, zs3, rfl, rfl, ho3, hb3⟩
  have HB3 : Hid _ := trans2 HB2.out hb3
  have HX : Hid _ := HO1'.out.below hb3
  have HY : Hid _ := HO2.out.below hb3
  clear ho3 hb3 HO1' HO2 HB2
  clear HN HR HV
  simp only [List.length_cons, List.length_nil]
  go_wp2_with (first
    | (go_at_call 11; refine (same_is HX.out HY.out hlen).mono ?_; rw [decide_eq_true rfl]; rintro e w4 ⟨rfl, hb4⟩; have HB4 : Hid _ := trans2 HB3.out hb4; clear hb4)
    | (go_at_call 12; go_in))
  go_ret
  exact ⟨rfl, HB4.out⟩
end Go.Proofs.Ytdjibjmhjofedaa
