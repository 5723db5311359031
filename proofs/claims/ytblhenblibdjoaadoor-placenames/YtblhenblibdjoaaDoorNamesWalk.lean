/-
  PlaceNames: the walk.
-/
import Derived.Test.YtblhenblibdjoaaDoorNames2
import Derived.Test.YtblhenblibdjoaaDoorNames3
namespace Go.Proofs.YtblhenblibdjoaaDoor
open Go.RowKit

theorem names_walk (w : World) (hg : Ground w) :
    Calls Tryd.prog 4 #[] w fun e w' => e = .returned (.bool true) ∧ Below w.heap.size w w' := by
  have HG : Hid (Ground w) := hg
  have HP1 : Hid _ := parse_none (s := ⟨#[97]⟩) (code := 10) (by kernel_rfl)
  have HP2 : Hid (∀ w, Ground w → Calls Tryd.prog 10 #[.string ⟨#[47, 97]⟩] w fun e w' => e = .returned (.tuple #[.string ⟨#[47]⟩, .int .i64 0]) ∧ Below w.heap.size w w') :=
    parent_some (s := ⟨#[47, 97]⟩) (xs := [⟨#[97]⟩]) (by kernel_rfl) 0 rfl
  clear hg
  go_enter Tryd.func4, Tryd.ntmps4
  go_wp2_with fail
  refine (HP1.out _ HG.out).mono ?_
  rintro e w1 ⟨rfl, hb1⟩
  have HB1 : Hid _ := hb1
  clear hb1
  go_wp2_with fail
  refine (HP2.out _ (HG.out.below HB1.out)).mono ?_
  rintro e w2 ⟨rfl, hb2⟩
  have HB2 : Hid _ := trans2 HB1.out hb2
  clear hb2
  go_wp2_with (first | (go_at_call 11; go_in) | fail)
  refine (errors1_any _).mono ?_
  rintro e w3 ⟨rfl, hb3⟩
  have HB3 : Hid _ := trans2 HB2.out hb3
  clear hb3
  go_wp2_with fail
  refine (limits_any _).mono ?_
  rintro e w4 ⟨rfl, hb4⟩
  have HB4 : Hid _ := trans2 HB3.out hb4
  clear hb4
  go_wp2_with fail
  refine (kinds_any _).mono ?_
  rintro e w5 ⟨rfl, hb5⟩
  have HB5 : Hid _ := trans2 HB4.out hb5
  clear hb5
  go_wp2
  go_ret
  exact ⟨rfl, HB5.out⟩
end Go.Proofs.YtblhenblibdjoaaDoor
