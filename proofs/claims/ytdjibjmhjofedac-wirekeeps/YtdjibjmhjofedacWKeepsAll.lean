/-
  WireKeeps: where something is too long; all together.
-/
import Derived.Test.YtdjibjmhjofedacWKeepsWalk
namespace Go.Proofs.Ytdjibjmhjofedac
open Go.RowKit
set_option linter.unusedVariables false

set_option maxHeartbeats 3200000 in
set_option maxRecDepth 100000 in
theorem keeps_big (v : Int) (s : ByteArray) (ab ao : Option Addr) (cb co : Nat) (body other : List Int) (rounds : Int) (w : World) (hbig : ¬ (s.size ≤ 20000 ∧ body.length ≤ 20000 ∧ other.length ≤ 20000)) :
    Calls Try.prog 4 #[.int .i64 v, .string s, .slice ab body.length cb, .slice ao other.length co, .int .i64 rounds] w fun e w' => e = .returned (.bool true) ∧ Below w.heap.size w w' := by
  rcases Nat.lt_or_ge 20000 s.size with h1 | h1
  · have h1' : (20000 : Int) < (s.size : Int) := by omega
    clear hbig
    go_enter Try.func4, Try.ntmps4
    go_wp2_with fail
    refine (awake_any w).mono ?_
    rintro e w1 ⟨rfl, hb1⟩
    have HB1 : Hid (Below w.heap.size w w1) := hb1
    clear hb1
    go_wp2_with fail
    go_ret
    exact ⟨rfl, HB1.out⟩
  · rcases Nat.lt_or_ge 20000 body.length with h2 | h2
    · have h1' : ¬ (20000 : Int) < (s.size : Int) := by omega
      have h2' : (20000 : Int) < (body.length : Int) := by omega
      clear hbig
      go_enter Try.func4, Try.ntmps4
      go_wp2_with fail
      refine (awake_any w).mono ?_
      rintro e w1 ⟨rfl, hb1⟩
      have HB1 : Hid (Below w.heap.size w w1) := hb1
      clear hb1
      go_wp2_with fail
      go_ret
      exact ⟨rfl, HB1.out⟩
    · have h1' : ¬ (20000 : Int) < (s.size : Int) := by omega
      have h2' : ¬ (20000 : Int) < (body.length : Int) := by omega
      have h3' : (20000 : Int) < (other.length : Int) := by omega
      clear hbig
      go_enter Try.func4, Try.ntmps4
      go_wp2_with fail
      refine (awake_any w).mono ?_
      rintro e w1 ⟨rfl, hb1⟩
      have HB1 : Hid (Below w.heap.size w w1) := hb1
      clear hb1
      go_wp2_with fail
      go_ret
      exact ⟨rfl, HB1.out⟩

theorem keeps_walk (v : Int) (s : ByteArray) (ab ao : Option Addr) (cb co : Nat) (body other : List Int) (rounds : Int) (w : World) (hv : -9223372036854775808 ≤ v ∧ v ≤ 9223372036854775807) (hr : -9223372036854775808 ≤ rounds ∧ rounds ≤ 9223372036854775807)
    (hx : Bys w ab body) (hb : Byt body) (hnb : ab = none → cb = 0) (hy : Bys w ao other) (ho : Byt other) (hno : ao = none → co = 0) :
    Calls Try.prog 4 #[.int .i64 v, .string s, .slice ab body.length cb, .slice ao other.length co, .int .i64 rounds] w fun e w' => e = .returned (.bool true) ∧ Below w.heap.size w w' := by
  by_cases hs : s.size ≤ 20000 ∧ body.length ≤ 20000 ∧ other.length ≤ 20000
  · exact keeps_small v s ab ao cb co body other rounds w hv hr hs.1 hx hb hnb hs.2.1 hy ho hno hs.2.2
  · exact keeps_big v s ab ao cb co body other rounds w hs
end Go.Proofs.Ytdjibjmhjofedac
