/-
  heraldlaw5: sameChanges of one list.
-/
import Derived.Test.YtkmiemjjedbnaaaDoorDBase
namespace Go.Proofs.YtkmiemjjedbnaaaDoor
open Go.RowKit
set_option linter.unusedVariables false
set_option linter.unusedSimpArgs false

set_option maxHeartbeats 3200000 in
set_option maxRecDepth 100000 in
theorem sameChanges_eq (a a' : Option Addr) (c c' n : Nat) (l : List ChT) (w : World) (hs : Hs w a l) (ht : Hs w a' l) (hn : l.length = n) (hl : n ≤ 1000) :
    Calls Tryd.prog 15 #[.slice a n c, .slice a' n c'] w fun e w' => e = .returned (.bool true) ∧ Below w.heap.size w w' := by
  have HS : Hid (Hs w a l) := hs
  have HT : Hid (Hs w a' l) := ht
  have HN : Hid (l.length = n) := hn
  clear hs ht hn
  go_enter Tryd.func15, Tryd.ntmps15
  go_wp2_with fail
  go_loopw [5] (fun i wr => ∃ q : Nat, i = .int .i64 q ∧ q ≤ n ∧ Hid (Below w.heap.size w wr)) (fun i _ => n - (intOf i).toNat)
  case atStart => exact ⟨0, rfl, Nat.zero_le _, Below.refl _ _⟩
  case round =>
    obtain ⟨q, rfl, hq, HB⟩ := hrel
    by_cases hlt : q < n
    · obtain ⟨x, hx⟩ : ∃ x, l[q]? = some x := ⟨l[q]'(by rw [HN.out]; exact hlt), List.getElem?_eq_getElem _⟩
      obtain ⟨b, o, rfl, hb, x0, x1, x2, x3⟩ := (HS.out.below HB.out).at hx
      obtain ⟨b', o', rfl, hb', y0, y1, y2, y3⟩ := (HT.out.below HB.out).at hx
      have hlt' : (q : Int) < (n : Int) := by omega
      clear hx
      go_wp2_with fail
      go_region_held3 (fun w' => w'.cell? ⟨b, o + q * 4, none⟩ = some (.int .i64 x.k) ∧ w'.cell? ⟨b, o + q * 4 + 1, none⟩ = some (.string x.p) ∧ w'.cell? ⟨b, o + q * 4 + 2, none⟩ = some (.string x.d) ∧ w'.cell? ⟨b, o + q * 4 + 3, none⟩ = some (.int .i64 x.v) ∧ w'.cell? ⟨b', o' + q * 4, none⟩ = some (.int .i64 x.k) ∧ w'.cell? ⟨b', o' + q * 4 + 1, none⟩ = some (.string x.p) ∧ w'.cell? ⟨b', o' + q * 4 + 2, none⟩ = some (.string x.d) ∧ w'.cell? ⟨b', o' + q * 4 + 3, none⟩ = some (.int .i64 x.v)) (go_keep) (fail)
      go_wp2_with fail
      go_roundw
      case rel => exact ⟨q + 1, by go_num, by omega, below_drew HB.out⟩
      case measure => simp [intOf]; omega
    · obtain rfl : q = n := by omega
      have hge : ¬ (q : Int) < (q : Int) := by omega
      go_wp2_with fail
      go_ret
      exact ⟨rfl, HB.out⟩
end Go.Proofs.YtkmiemjjedbnaaaDoor
