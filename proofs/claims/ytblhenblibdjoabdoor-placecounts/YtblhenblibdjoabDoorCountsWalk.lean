/-
  PlaceCounts: the walk.
-/
import Derived.Test.YtblhenblibdjoabDoorRefCounted
namespace Go.Proofs.YtblhenblibdjoabDoor
open Go.RowKit

theorem counts_core (s U : ByteArray) (n F : Int)
    (H1 : Hid (∀ w, Calls Tryd.prog 13 #[.string s, .int .i64 n] w fun e w' => e = .returned (.tuple #[.string U, .int .i64 F]) ∧ Below w.heap.size w w'))
    (H2 : Hid (∀ w, GroundC w → Calls Tryd.prog 14 #[.string s, .int .i64 n] w fun e w' => e = .returned (.tuple #[.string U, .int .i64 F]) ∧ Below w.heap.size w w'))
    (w : World) (HG : Hid (GroundC w)) :
    Calls Tryd.prog 4 #[.string s, .int .i64 n] w fun e w' => e = .returned (.bool true) ∧ Below w.heap.size w w' := by
  go_enter Tryd.func4, Tryd.ntmps4
  go_wp2_with fail
  refine (H1.out _).mono ?_
  rintro e w1 ⟨rfl, hb1⟩
  have HB1 : Hid _ := hb1
  clear hb1
  go_wp2_with fail
  refine (H2.out _ (HG.out.below HB1.out)).mono ?_
  rintro e w2 ⟨rfl, hb2⟩
  have HB2 : Hid _ := trans2 HB1.out hb2
  clear hb2
  go_wp2_with (first
    | (go_at_call 12; refine (known_any _ (HG.out.below HB2.out).toGround).mono ?_; rintro e w8 ⟨rfl, hb8⟩; have HB8 : Hid _ := hb8; clear hb8)
    | (go_at_call 11; go_in))
  go_ret
  exact ⟨rfl, trans2 HB2.out HB8.out⟩

theorem counts_walk (s : ByteArray) (n : Int) (w : World) (hg : GroundC w) :
    Calls Tryd.prog 4 #[.string s, .int .i64 n] w fun e w' => e = .returned (.bool true) ∧ Below w.heap.size w w' := by
  obtain ⟨code, xs, hp⟩ : ∃ code xs, parse s = (code, xs) := ⟨_, _, rfl⟩
  by_cases hc : code = 0
  · subst hc
    by_cases hx : xs = []
    · subst hx
      exact counts_core s _ n _ (refCounted_root n hp) (fun w hg => counted_root n hp w hg.toGround) w hg
    · obtain ⟨k, hk⟩ : ∃ k, xs.length = k + 1 := ⟨xs.length - 1, by cases xs with | nil => exact absurd rfl hx | cons y ys => simp⟩
      obtain ⟨x, hxk⟩ : ∃ x, xs[k]? = some x := ⟨xs[k], List.getElem?_eq_getElem (by omega)⟩
      by_cases hl : 11 < x.size
      · exact counts_core s _ n _ (refCounted_long n hp k hk x hxk hl) (fun w hg => counted_long n hp hx x (by rw [hk]; exact hxk) hl w hg.toGround) w hg
      · by_cases hn : n < 0 ∨ 99999 < n
        · exact counts_core s _ n _ (refCounted_arg hn hp k hk x hxk (by omega)) (fun w hg => counted_arg hn hp k hk x hxk (by omega) w hg.toGround) w hg
        · obtain ⟨m, rfl⟩ : ∃ m : Nat, n = (m : Int) := ⟨n.toNat, by omega⟩
          exact counts_core s _ _ _ (refCounted_good (by omega) hp k hk x hxk (by omega)) (counted_good (by omega) hp k hk x hxk (by omega)) w hg
  · have hx := parse_code hp hc
    subst hx
    exact counts_core s _ n _ (refCounted_err n hp hc) (fun w hg => counted_err n hp hc w hg.toGround) w hg
end Go.Proofs.YtblhenblibdjoabDoor
