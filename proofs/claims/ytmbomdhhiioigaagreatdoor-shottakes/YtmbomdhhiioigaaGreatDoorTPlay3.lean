/-
  tree: Play of one op.
-/
import Derived.Test.YtmbomdhhiioigaaGreatDoorTDrop
import Derived.Test.YtmbomdhhiioigaaGreatDoorShelfG
import Derived.Deep.Cut
namespace Go.Proofs.YtmbomdhhiioigaaGreatDoor
open Go.RowKit Go.Maps
set_option linter.unusedVariables false
set_option linter.unusedSimpArgs false

set_option maxHeartbeats 3200000 in
theorem mayPlay_ok {w : World} {tb mb : Nat} (h : w.cell? ⟨tb, 0, none⟩ = some (.map (some mb))) (s st n : Int) (h0 : 0 ≤ s) (h1 : s ≤ 2147483647) (h2 : 1 ≤ st) (h3 : st ≤ 2147483647) (h4 : 1 ≤ n) (h5 : n ≤ 4) :
    Calls Tryz.prog 25 #[.pointer (some ⟨tb, 0, none⟩), .int .i64 s, .int .i64 st, .int .i64 n] w fun e w' => e = .returned (.int .i64 0) ∧ w' = w := by
  have HN : Hid _ := isNone_at tb (some mb) w h
  have q1 : ¬ s < 0 := by omega
  have q2 : ¬ 2147483647 < s := by omega
  have q3 : ¬ st < 1 := by omega
  have q4 : ¬ 2147483647 < st := by omega
  have q5 : ¬ 4 < n := by omega
  have q6 : (n == 0) = false := by simp; omega
  clear h h0 h1 h2 h3 h4 h5
  go_enter Tryz.func25, Tryz.ntmps25
  go_wp2_with (first | (go_at_call 21; refine Calls.mono HN.out ?_; rintro e w1 ⟨rfl, rfl⟩) | fail)
  go_ret
  exact ⟨rfl, rfl⟩

theorem cloneMap_any (b n : Nat) (D : DataW Value) (w : World) (hm : MapAt w b n D) :
    Calls Tryz.prog 22 #[.map (some b)] w fun e w' => e = .returned (.map (some w.heap.size)) ∧ MapAt w' w.heap.size n D ∧ Below w.heap.size w w' := by
  have h := AnyW.maps_Clone_owns Tryz.cloneM 9 raw b n D w hm
  refine Calls.mono h ?_
  rintro e w' ⟨h1, h2, _, h4⟩
  exact ⟨h1, h2, h4⟩

theorem Tryz.infoR : (Tryz.prog.info? 77).map (fun i => (i.zero, i.size, i.bytes)) = some (some (.agg #[.string ⟨#[]⟩, .string ⟨#[]⟩, .int .i64 0, .int .i64 0, .int .i64 0, .int .i64 0, .slice none 0 0]), 7, 88) := by kernel_rfl

end Go.Proofs.YtmbomdhhiioigaaGreatDoor
namespace Go.Proofs.YtmbomdhhiioigaaGreatDoor
open Go.RowKit Go.Maps
set_option linter.unusedVariables false
set_option linter.unusedSimpArgs false

theorem chg_drew (w : World) (S : Nat → Prop) : Chg w w.drew S := ⟨rfl, rfl, rfl, Nat.le_refl _, fun _ _ _ => rfl⟩
theorem heap_drew_at (w : World) (k : Nat) : w.drew.heap[k]? = w.heap[k]? := rfl
theorem putC_4 {w : World} {g : Nat} {x0 x1 x2 x3 : Value} : Chg w (put_4 w g x0 x1 x2 x3) (fun k => k = g) :=
  (((Chg.set w ⟨g, 0, none⟩ x0).trans (Chg.set _ ⟨g, 1, none⟩ x1)).trans (Chg.set _ ⟨g, 2, none⟩ x2)).trans (Chg.set _ ⟨g, 3, none⟩ x3)

end Go.Proofs.YtmbomdhhiioigaaGreatDoor
