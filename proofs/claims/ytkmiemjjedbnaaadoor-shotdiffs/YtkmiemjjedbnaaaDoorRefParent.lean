/-
  heraldref1.Parent by a contract.
-/
import Derived.Test.YtkmiemjjedbnaaaDoorRefOf
namespace Go.Proofs.YtkmiemjjedbnaaaDoor
open Go.RowKit

theorem refParent_err {s : ByteArray} {code : Int} (h : parse s = (code, [])) (hc : code ≠ 0) (w : World) :
    Calls Tryd.prog 56 #[.string s] w fun e w' => e = .returned (.tuple #[.string ⟨#[]⟩, .int .i64 code]) ∧ Below w.heap.size w w' := by
  have HP : Hid _ := refParse_none h
  have hc' : (code != 0) = true := by simpa using hc
  clear h
  go_enter Tryd.func56, Tryd.ntmps56
  go_wp2_with (first | (go_at_call 53; refine (HP.out _).mono ?_; rintro e w1 ⟨a, c, rfl, hb⟩; have HB : Hid _ := hb; clear hb))
  go_ret2
  exact ⟨rfl, HB.out⟩
theorem refParent_root {s : ByteArray} (h : parse s = (0, [])) (w : World) :
    Calls Tryd.prog 56 #[.string s] w fun e w' => e = .returned (.tuple #[.string ⟨#[]⟩, .int .i64 47]) ∧ Below w.heap.size w w' := by
  have HP : Hid _ := refParse_none h
  clear h
  go_enter Tryd.func56, Tryd.ntmps56
  go_wp2_with (first | (go_at_call 53; refine (HP.out _).mono ?_; rintro e w1 ⟨a, c, rfl, hb⟩; have HB : Hid _ := hb; clear hb))
  go_ret2
  exact ⟨rfl, HB.out⟩
set_option maxRecDepth 100000 in
theorem refParent_some {s : ByteArray} {xs : List ByteArray} (h : parse s = (0, xs)) (k : Nat) (hk : xs.length = k + 1) (w : World) :
    Calls Tryd.prog 56 #[.string s] w fun e w' => e = .returned (.tuple #[.string (placeB (xs.take k)), .int .i64 0]) ∧ Below w.heap.size w w' := by
  have hl := parse_len h
  have HP : Hid _ := refParse_some h (fun e => by rw [e] at hk; simp at hk)
  have htl : (xs.take k).length = k := by rw [List.length_take]; omega
  have hk6 : k ≤ 5 := by omega
  have HN : Hid (xs.all isNm = true) := hl.2
  have HT : Hid ((xs.take k).length = k) := htl
  have hk0 : ((k : Int) + 1 == 0) = false := by simp; omega
  obtain ⟨pb, hpb⟩ : ∃ pb, placeB (xs.take k) = pb := ⟨_, rfl⟩
  rw [hpb]
  have HPB : Hid (placeB (xs.take k) = pb) := hpb
  clear h hl htl hpb
  go_enter Tryd.func56, Tryd.ntmps56
  go_wp2_with fail
  refine (HP.out _).mono ?_
  rintro e w1 ⟨b, o, c, rfl, hlt, hs, hcap, hb⟩
  have HB : Hid _ := hb
  have hcap1 : k + 1 ≤ c := by have := hcap.1; omega
  have hcap2 : c ≤ 9223372036854775807 := by have := hcap.2; unfold maxLen at this; omega
  have HO : Hid (∀ c, Calls Tryd.prog 68 #[.slice (some ⟨b, o, none⟩) k c] w1 fun e w' => e = .returned (.string pb) ∧ w' = w1) := fun c => by
    have := of_any (some ⟨b, o, none⟩) c (xs.take k) w1 (lst_take' hlt hs k) (by rw [HT.out]; omega) (all_take' HN.out k)
    rw [HT.out, HPB.out] at this
    exact this
  clear hb hs hlt hcap
  go_wp2_with (first | (go_at_call 68; refine (HO.out _).mono ?_; rintro e w2 ⟨rfl, rfl⟩))
  go_ret2
  exact ⟨rfl, HB.out⟩

end Go.Proofs.YtkmiemjjedbnaaaDoor
