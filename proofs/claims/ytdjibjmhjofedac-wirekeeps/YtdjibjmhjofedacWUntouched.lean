/-
  untouched.
-/
import Derived.Test.YtdjibjmhjofedacWRoomy
namespace Go.Proofs.Ytdjibjmhjofedac
open Go.RowKit

set_option maxHeartbeats 1600000 in
set_option maxRecDepth 100000 in
theorem untouched_any (base g cap : Nat) (xs : List Int) (b : Option Addr) (d : Nat) (w : World) (hr : Room w base g cap xs) (hx : Bys w b xs) (hm : xs.length ≤ 1000000) :
    Calls Try.prog 39 #[.slice (some ⟨g, 0, none⟩) xs.length cap, .slice b xs.length d] w fun e w' => e = .returned (.bool true) ∧ Below w.heap.size w w' := by
  have hcap := hr.cap
  have h1 := hr.cell xs.length 167 (by simp)
  have h2 := hr.cell (xs.length + 1) 94 (by rw [List.getElem?_append_right (by omega)]; simp)
  have HS : Hid _ := same_is (c := cap) (d := d) hr.bys hx (by unfold maxLen; omega)
  have hcap' : (xs.length : Int) + 2 ≤ (cap : Int) := by omega
  obtain ⟨hc1, hc2⟩ := hcap
  unfold maxLen at hc2
  clear hr hx
  go_enter Try.func39, Try.ntmps39
  go_wp2_with (first
    | (go_at_call 13; refine Calls.mono HS.out ?_; rw [decide_eq_true rfl]; rintro e w4 ⟨rfl, hb4⟩; have HB4 : Hid _ := hb4; rw [← hb4.cell (p := ⟨g, xs.length, none⟩) (World.block_lt_of_cell? _ _ h1)] at h1; rw [← hb4.cell (p := ⟨g, xs.length + 1, none⟩) (World.block_lt_of_cell? _ _ h2)] at h2; clear hb4)
    | fail)
  go_ret
  exact ⟨rfl, HB4.out⟩

end Go.Proofs.Ytdjibjmhjofedac
