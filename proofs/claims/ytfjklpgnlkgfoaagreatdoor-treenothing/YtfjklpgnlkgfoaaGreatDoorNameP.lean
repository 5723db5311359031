/-
  Name by a contract.
-/
import Derived.Test.YtfjklpgnlkgfoaaGreatDoorParent
namespace Go.Proofs.YtfjklpgnlkgfoaaGreatDoor
open Go.RowKit

theorem name_err {s : ByteArray} {code : Int} (h : parse s = (code, [])) (w : World) (hg : Ground w) :
    Calls Tryz.prog 75 #[.string s] w fun e w' => e = .returned (.tuple #[.string ⟨#[]⟩, .int .i64 code]) ∧ Below w.heap.size w w' := by
  have HP : Hid _ := parse_none h
  have HG : Hid (Ground w) := hg
  clear hg h
  by_cases hc : code = 0
  · subst hc
    go_enter Tryz.func75, Tryz.ntmps75
    go_wp2_with (first | (go_at_call 36; refine (HP.out _ HG.out).mono ?_; rintro e w1 ⟨rfl, hb⟩; have HB : Hid _ := hb; clear hb))
    go_ret2
    exact ⟨rfl, HB.out⟩
  · have hc' : (code != 0) = true := by simpa using hc
    go_enter Tryz.func75, Tryz.ntmps75
    go_wp2_with (first | (go_at_call 36; refine (HP.out _ HG.out).mono ?_; rintro e w1 ⟨rfl, hb⟩; have HB : Hid _ := hb; clear hb))
    go_ret2
    exact ⟨rfl, HB.out⟩
theorem name_some {s : ByteArray} {xs : List ByteArray} (h : parse s = (0, xs)) (k : Nat) (hk : xs.length = k + 1) (x : ByteArray) (hx : xs[k]? = some x) (w : World) (hg : Ground w) :
    Calls Tryz.prog 75 #[.string s] w fun e w' => e = .returned (.tuple #[.string x, .int .i64 0]) ∧ Below w.heap.size w w' := by
  have hl := parse_len h
  have HP : Hid _ := parse_some h (fun e => by rw [e] at hk; simp at hk)
  have HG : Hid (Ground w) := hg
  have HX : Hid _ := hx
  have hk6 : k ≤ 5 := by omega
  have hk0 : ((k : Int) + 1 == 0) = false := by simp; omega
  clear hg h hl hx
  go_enter Tryz.func75, Tryz.ntmps75
  go_wp2_with (first | (go_at_call 36; refine (HP.out _ HG.out).mono ?_; rintro e w1 ⟨b, rfl, _, hblk, hb⟩; have hcell := cell_of_block hblk HX.out; have HB : Hid _ := hb; clear hb hblk))
  go_ret2
  exact ⟨rfl, HB.out⟩
end Go.Proofs.YtfjklpgnlkgfoaaGreatDoor
