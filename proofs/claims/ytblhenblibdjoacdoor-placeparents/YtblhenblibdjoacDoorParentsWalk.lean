/-
  PlaceParents: the walk.
-/
import Derived.Test.YtblhenblibdjoacDoorName
namespace Go.Proofs.YtblhenblibdjoacDoor
open Go.RowKit

theorem trans2 {w w1 w2 : World} (h1 : Below w.heap.size w w1) (h2 : Below w1.heap.size w1 w2) : Below w.heap.size w w2 := h1.trans (h2.mono h1.size)

set_option maxRecDepth 100000 in
theorem parents_core (s U L : ByteArray) (F G : Int)
    (HRP : Hid (∀ w, Calls Tryd.prog 13 #[.string s] w fun e w' => e = .returned (.tuple #[.string U, .int .i64 F]) ∧ Below w.heap.size w w'))
    (HRN : Hid (∀ w, Calls Tryd.prog 14 #[.string s] w fun e w' => e = .returned (.tuple #[.string L, .int .i64 G]) ∧ Below w.heap.size w w'))
    (HPP : Hid (∀ w, Ground w → Calls Tryd.prog 15 #[.string s] w fun e w' => e = .returned (.tuple #[.string U, .int .i64 F]) ∧ Below w.heap.size w w'))
    (HPN : Hid (∀ w, Ground w → Calls Tryd.prog 16 #[.string s] w fun e w' => e = .returned (.tuple #[.string L, .int .i64 G]) ∧ Below w.heap.size w w'))
    (w : World) (HG : Hid (Ground w)) :
    Calls Tryd.prog 5 #[.string s] w fun e w' => e = .returned (.bool true) ∧ Below w.heap.size w w' := by
  go_enter Tryd.func5, Tryd.ntmps5
  go_wp2_with fail
  refine (HRP.out _).mono ?_
  rintro e w1 ⟨rfl, hb1⟩
  have HB1 : Hid _ := hb1
  clear hb1
  go_wp2_with fail
  refine (HRN.out _).mono ?_
  rintro e w2 ⟨rfl, hb2⟩
  have HB2 : Hid (Below w.heap.size w w2) := trans2 HB1.out hb2
  clear hb2
  go_wp2_with fail
  refine (HPP.out _ (HG.out.below HB2.out)).mono ?_
  rintro e w3 ⟨rfl, hb3⟩
  have HB3 : Hid (Below w.heap.size w w3) := trans2 HB2.out hb3
  clear hb3
  go_wp2_with fail
  refine (HPN.out _ (HG.out.below HB3.out)).mono ?_
  rintro e w4 ⟨rfl, hb4⟩
  have HB4 : Hid (Below w.heap.size w w4) := trans2 HB3.out hb4
  clear hb4
  go_wp2_with (first
    | (go_at_call 7; refine (known_any _ (HG.out.below HB4.out)).mono ?_; rintro e w8 ⟨rfl, hb8⟩; have HB8 : Hid _ := hb8; clear hb8)
    | (go_at_call 12; go_in))
  go_ret
  exact ⟨rfl, trans2 HB4.out HB8.out⟩

theorem parse_code {s : ByteArray} {code : Int} {xs : List ByteArray} (h : parse s = (code, xs)) (hc : code ≠ 0) : xs = [] := by
  by_cases h0 : 102 < s.size
  · rw [parse_long h0] at h; cases h; rfl
  by_cases h1 : s.data.toList = [47]
  · rw [parse_root h1] at h; cases h; rfl
  by_cases h2 : ∃ l, s.data.toList = 47 :: l
  · obtain ⟨l, hl⟩ := h2
    rw [parse_yes h0 h1 hl] at h
    split at h
    · cases h; exact absurd rfl hc
    · cases h; rfl
  · rw [parse_no h0 (fun l e => h2 ⟨l, e⟩)] at h; cases h; rfl

theorem parents_walk (s : ByteArray) (w : World) (hg : Ground w) :
    Calls Tryd.prog 5 #[.string s] w fun e w' => e = .returned (.bool true) ∧ Below w.heap.size w w' := by
  obtain ⟨code, xs, hp⟩ : ∃ code xs, parse s = (code, xs) := ⟨_, _, rfl⟩
  by_cases hc : code = 0
  · subst hc
    by_cases hx : xs = []
    · subst hx
      exact parents_core s _ _ _ _ (refParent_root hp) (refName_err hp) (parent_root hp) (name_err hp) w hg
    · obtain ⟨k, hk⟩ : ∃ k, xs.length = k + 1 := ⟨xs.length - 1, by cases xs with | nil => exact absurd rfl hx | cons y ys => simp⟩
      obtain ⟨x, hxk⟩ : ∃ x, xs[k]? = some x := ⟨xs[k], List.getElem?_eq_getElem (by omega)⟩
      exact parents_core s _ _ _ _ (refParent_some hp k hk) (refName_some hp k hk x hxk) (parent_some hp k hk) (name_some hp k hk x hxk) w hg
  · have hx := parse_code hp hc
    subst hx
    exact parents_core s _ _ _ _ (refParent_err hp hc) (refName_err hp) (parent_err hp hc) (name_err hp) w hg
end Go.Proofs.YtblhenblibdjoacDoor
