import Derived.Test.YtdjfeomdiljaeaaGreatDoorNtBare
import Derived.Test.YtdjfeomdiljaeaaGreatDoorNtBareF
namespace Go.Proofs.YtdjfeomdiljaeaaGreatDoor
open Go.RowKit
set_option linter.unusedVariables false
set_option linter.unusedSimpArgs false

set_option maxHeartbeats 3200000 in
theorem bare_12 (b : Nat) (N : NoN) (w : World) (hN : NB w b N) (g0 : N.num = 0) (g1 : N.pri = 0) (g2 : N.bak = 0) (g3 : N.se = 0) (g4 : N.cn = 0) (g5 : N.rq = 0) (g6 : N.st = 0) (g7 : N.of = 0) (g8 : N.cm = 0) (g9 : N.cd = 0) (g10 : N.ops.length = 0) (g11 : N.ents.length = 0) (g12 : ¬ ((N.rst = 0 ∧ N.rcd = 0 ∧ N.rat = 0 ∧ N.res.length = 0))) : Calls Tryz.prog 83 #[.pointer (some ⟨b, 0, none⟩)] w fun e w' => e = .returned (.bool false) ∧ Below w.heap.size w w' := by
  have HN : Hid (NB w b N) := hN
  have HB : Hid (Below w.heap.size w w) := Below.refl _ _
  have c1 := hN.cell (i := 1) (v := .int .i64 N.num) rfl
  have c2 := hN.cell (i := 2) (v := .int .i64 N.pri) rfl
  have c3 := hN.cell (i := 3) (v := .int .i64 N.bak) rfl
  have c4 := hN.cell (i := 4) (v := .int .i64 N.se) rfl
  have c5 := hN.cell (i := 5) (v := .int .i64 N.cn) rfl
  have c6 := hN.cell (i := 6) (v := .int .i64 N.rq) rfl
  have c7 := hN.cell (i := 7) (v := .int .i64 N.st) rfl
  have c8 := hN.cell (i := 8) (v := .int .i64 N.of) rfl
  have c9 := hN.cell (i := 9) (v := .int .i64 N.cm) rfl
  have c10 := hN.cell (i := 10) (v := .int .i64 N.cd) rfl
  have c11 := hN.cell (i := 11) (v := .slice N.opsA N.ops.length N.opsC) rfl
  have c12 := hN.cell (i := 12) (v := .slice N.entsA N.ents.length N.entsC) rfl
  have c13 := hN.cell (i := 13) (v := .int .i64 N.rst) rfl
  have c14 := hN.cell (i := 14) (v := .int .i64 N.rcd) rfl
  have c15 := hN.cell (i := 15) (v := .int .i64 N.rat) rfl
  have c16 := hN.cell (i := 16) (v := .slice N.resA N.res.length N.resC) rfl
  clear hN
  have k10 : (N.ops.length : Int) = 0 := by omega
  have k11 : (N.ents.length : Int) = 0 := by omega
  have HRV : Hid (Calls Tryz.prog 114 #[.agg #[.int .i64 N.rst, .int .i64 N.rcd, .int .i64 N.rat, .slice N.resA N.res.length N.resC]] w fun e w' => e = .returned (.bool false) ∧ Below w.heap.size w w') := Calls.mono (noReply_any N.rst N.rcd N.rat N.resA N.resC N.res.length w) fun e w' ⟨bb, he, hbb, hb⟩ => ⟨by rw [he, show bb = false from Bool.eq_false_iff.2 (fun g => g12 (hbb.1 g))], hb⟩
  clear g12
  go_enter Tryz.func83, Tryz.ntmps83
  go_wp2_with (first
    | (go_at_call 114; refine Calls.mono HRV.out ?_; rintro e w1 ⟨rfl, hb⟩
       have HN1 : Hid (NB w1 b N) := kept_block hb HN.out
       clear HB
       have HB : Hid (Below w.heap.size w w1) := hb
       clear hb c1 c2 c3 c4 c5 c6 c7 c8 c9 c10 c11 c12 c13 c14 c15 c16
       skip)
    | fail)
  go_ret
  exact ⟨rfl, HB.out⟩
set_option maxHeartbeats 3200000 in
theorem bare_13 (b : Nat) (N : NoN) (w : World) (hN : NB w b N) (g0 : N.num = 0) (g1 : N.pri = 0) (g2 : N.bak = 0) (g3 : N.se = 0) (g4 : N.cn = 0) (g5 : N.rq = 0) (g6 : N.st = 0) (g7 : N.of = 0) (g8 : N.cm = 0) (g9 : N.cd = 0) (g10 : N.ops.length = 0) (g11 : N.ents.length = 0) (g12 : (N.rst = 0 ∧ N.rcd = 0 ∧ N.rat = 0 ∧ N.res.length = 0)) (g13 : ¬ (N.was.length = 0)) : Calls Tryz.prog 83 #[.pointer (some ⟨b, 0, none⟩)] w fun e w' => e = .returned (.bool false) ∧ Below w.heap.size w w' := by
  have HN : Hid (NB w b N) := hN
  have HB : Hid (Below w.heap.size w w) := Below.refl _ _
  have c1 := hN.cell (i := 1) (v := .int .i64 N.num) rfl
  have c2 := hN.cell (i := 2) (v := .int .i64 N.pri) rfl
  have c3 := hN.cell (i := 3) (v := .int .i64 N.bak) rfl
  have c4 := hN.cell (i := 4) (v := .int .i64 N.se) rfl
  have c5 := hN.cell (i := 5) (v := .int .i64 N.cn) rfl
  have c6 := hN.cell (i := 6) (v := .int .i64 N.rq) rfl
  have c7 := hN.cell (i := 7) (v := .int .i64 N.st) rfl
  have c8 := hN.cell (i := 8) (v := .int .i64 N.of) rfl
  have c9 := hN.cell (i := 9) (v := .int .i64 N.cm) rfl
  have c10 := hN.cell (i := 10) (v := .int .i64 N.cd) rfl
  have c11 := hN.cell (i := 11) (v := .slice N.opsA N.ops.length N.opsC) rfl
  have c12 := hN.cell (i := 12) (v := .slice N.entsA N.ents.length N.entsC) rfl
  have c13 := hN.cell (i := 13) (v := .int .i64 N.rst) rfl
  have c14 := hN.cell (i := 14) (v := .int .i64 N.rcd) rfl
  have c15 := hN.cell (i := 15) (v := .int .i64 N.rat) rfl
  have c16 := hN.cell (i := 16) (v := .slice N.resA N.res.length N.resC) rfl
  have c17 := hN.cell (i := 17) (v := .slice N.wasA N.was.length N.wasC) rfl
  clear hN
  have k10 : (N.ops.length : Int) = 0 := by omega
  have k11 : (N.ents.length : Int) = 0 := by omega
  have HRV : Hid (Calls Tryz.prog 114 #[.agg #[.int .i64 N.rst, .int .i64 N.rcd, .int .i64 N.rat, .slice N.resA N.res.length N.resC]] w fun e w' => e = .returned (.bool true) ∧ Below w.heap.size w w') := Calls.mono (noReply_any N.rst N.rcd N.rat N.resA N.resC N.res.length w) fun e w' ⟨bb, he, hbb, hb⟩ => ⟨by rw [he, show bb = true from hbb.2 g12], hb⟩
  clear g12
  have k13 : ¬ (N.was.length : Int) = 0 := by omega
  go_enter Tryz.func83, Tryz.ntmps83
  go_wp2_with (first
    | (go_at_call 114; refine Calls.mono HRV.out ?_; rintro e w1 ⟨rfl, hb⟩
       have HN1 : Hid (NB w1 b N) := kept_block hb HN.out
       clear HB
       have HB : Hid (Below w.heap.size w w1) := hb
       clear hb c1 c2 c3 c4 c5 c6 c7 c8 c9 c10 c11 c12 c13 c14 c15 c16 c17
       have c17 := HN1.out.cell (i := 17) (v := .slice N.wasA N.was.length N.wasC) rfl
       skip)
    | fail)
  go_ret
  exact ⟨rfl, HB.out⟩
set_option maxHeartbeats 3200000 in
theorem bare_14 (b : Nat) (N : NoN) (w : World) (hN : NB w b N) (g0 : N.num = 0) (g1 : N.pri = 0) (g2 : N.bak = 0) (g3 : N.se = 0) (g4 : N.cn = 0) (g5 : N.rq = 0) (g6 : N.st = 0) (g7 : N.of = 0) (g8 : N.cm = 0) (g9 : N.cd = 0) (g10 : N.ops.length = 0) (g11 : N.ents.length = 0) (g12 : (N.rst = 0 ∧ N.rcd = 0 ∧ N.rat = 0 ∧ N.res.length = 0)) (g13 : N.was.length = 0) (g14 : ¬ (N.parts.length = 0)) : Calls Tryz.prog 83 #[.pointer (some ⟨b, 0, none⟩)] w fun e w' => e = .returned (.bool false) ∧ Below w.heap.size w w' := by
  have HN : Hid (NB w b N) := hN
  have HB : Hid (Below w.heap.size w w) := Below.refl _ _
  have c1 := hN.cell (i := 1) (v := .int .i64 N.num) rfl
  have c2 := hN.cell (i := 2) (v := .int .i64 N.pri) rfl
  have c3 := hN.cell (i := 3) (v := .int .i64 N.bak) rfl
  have c4 := hN.cell (i := 4) (v := .int .i64 N.se) rfl
  have c5 := hN.cell (i := 5) (v := .int .i64 N.cn) rfl
  have c6 := hN.cell (i := 6) (v := .int .i64 N.rq) rfl
  have c7 := hN.cell (i := 7) (v := .int .i64 N.st) rfl
  have c8 := hN.cell (i := 8) (v := .int .i64 N.of) rfl
  have c9 := hN.cell (i := 9) (v := .int .i64 N.cm) rfl
  have c10 := hN.cell (i := 10) (v := .int .i64 N.cd) rfl
  have c11 := hN.cell (i := 11) (v := .slice N.opsA N.ops.length N.opsC) rfl
  have c12 := hN.cell (i := 12) (v := .slice N.entsA N.ents.length N.entsC) rfl
  have c13 := hN.cell (i := 13) (v := .int .i64 N.rst) rfl
  have c14 := hN.cell (i := 14) (v := .int .i64 N.rcd) rfl
  have c15 := hN.cell (i := 15) (v := .int .i64 N.rat) rfl
  have c16 := hN.cell (i := 16) (v := .slice N.resA N.res.length N.resC) rfl
  have c17 := hN.cell (i := 17) (v := .slice N.wasA N.was.length N.wasC) rfl
  have c18 := hN.cell (i := 18) (v := .slice N.partsA N.parts.length N.partsC) rfl
  clear hN
  have k10 : (N.ops.length : Int) = 0 := by omega
  have k11 : (N.ents.length : Int) = 0 := by omega
  have HRV : Hid (Calls Tryz.prog 114 #[.agg #[.int .i64 N.rst, .int .i64 N.rcd, .int .i64 N.rat, .slice N.resA N.res.length N.resC]] w fun e w' => e = .returned (.bool true) ∧ Below w.heap.size w w') := Calls.mono (noReply_any N.rst N.rcd N.rat N.resA N.resC N.res.length w) fun e w' ⟨bb, he, hbb, hb⟩ => ⟨by rw [he, show bb = true from hbb.2 g12], hb⟩
  clear g12
  have k13 : (N.was.length : Int) = 0 := by omega
  have k14 : ¬ (N.parts.length : Int) = 0 := by omega
  go_enter Tryz.func83, Tryz.ntmps83
  go_wp2_with (first
    | (go_at_call 114; refine Calls.mono HRV.out ?_; rintro e w1 ⟨rfl, hb⟩
       have HN1 : Hid (NB w1 b N) := kept_block hb HN.out
       clear HB
       have HB : Hid (Below w.heap.size w w1) := hb
       clear hb c1 c2 c3 c4 c5 c6 c7 c8 c9 c10 c11 c12 c13 c14 c15 c16 c17 c18
       have c17 := HN1.out.cell (i := 17) (v := .slice N.wasA N.was.length N.wasC) rfl
       have c18 := HN1.out.cell (i := 18) (v := .slice N.partsA N.parts.length N.partsC) rfl
       skip)
    | fail)
  go_ret
  exact ⟨rfl, HB.out⟩
end Go.Proofs.YtdjfeomdiljaeaaGreatDoor
namespace Go.Proofs.YtdjfeomdiljaeaaGreatDoor
open Go.RowKit
set_option linter.unusedVariables false
set_option linter.unusedSimpArgs false

set_option maxHeartbeats 3200000 in
theorem bare_9 (b : Nat) (N : NoN) (w : World) (hN : NB w b N) (g0 : N.num = 0) (g1 : N.pri = 0) (g2 : N.bak = 0) (g3 : N.se = 0) (g4 : N.cn = 0) (g5 : N.rq = 0) (g6 : N.st = 0) (g7 : N.of = 0) (g8 : N.cm = 0) (g9 : ¬ (N.cd = 0)) : Calls Tryz.prog 83 #[.pointer (some ⟨b, 0, none⟩)] w fun e w' => e = .returned (.bool false) ∧ Below w.heap.size w w' := by
  have HN : Hid (NB w b N) := hN
  have HB : Hid (Below w.heap.size w w) := Below.refl _ _
  have c1 := hN.cell (i := 1) (v := .int .i64 N.num) rfl
  have c2 := hN.cell (i := 2) (v := .int .i64 N.pri) rfl
  have c3 := hN.cell (i := 3) (v := .int .i64 N.bak) rfl
  have c4 := hN.cell (i := 4) (v := .int .i64 N.se) rfl
  have c5 := hN.cell (i := 5) (v := .int .i64 N.cn) rfl
  have c6 := hN.cell (i := 6) (v := .int .i64 N.rq) rfl
  have c7 := hN.cell (i := 7) (v := .int .i64 N.st) rfl
  have c8 := hN.cell (i := 8) (v := .int .i64 N.of) rfl
  have c9 := hN.cell (i := 9) (v := .int .i64 N.cm) rfl
  have c10 := hN.cell (i := 10) (v := .int .i64 N.cd) rfl
  clear hN
  go_enter Tryz.func83, Tryz.ntmps83
  go_wp2_with fail
  go_ret
  exact ⟨rfl, HB.out⟩
set_option maxHeartbeats 3200000 in
theorem bare_10 (b : Nat) (N : NoN) (w : World) (hN : NB w b N) (g0 : N.num = 0) (g1 : N.pri = 0) (g2 : N.bak = 0) (g3 : N.se = 0) (g4 : N.cn = 0) (g5 : N.rq = 0) (g6 : N.st = 0) (g7 : N.of = 0) (g8 : N.cm = 0) (g9 : N.cd = 0) (g10 : ¬ (N.ops.length = 0)) : Calls Tryz.prog 83 #[.pointer (some ⟨b, 0, none⟩)] w fun e w' => e = .returned (.bool false) ∧ Below w.heap.size w w' := by
  have HN : Hid (NB w b N) := hN
  have HB : Hid (Below w.heap.size w w) := Below.refl _ _
  have c1 := hN.cell (i := 1) (v := .int .i64 N.num) rfl
  have c2 := hN.cell (i := 2) (v := .int .i64 N.pri) rfl
  have c3 := hN.cell (i := 3) (v := .int .i64 N.bak) rfl
  have c4 := hN.cell (i := 4) (v := .int .i64 N.se) rfl
  have c5 := hN.cell (i := 5) (v := .int .i64 N.cn) rfl
  have c6 := hN.cell (i := 6) (v := .int .i64 N.rq) rfl
  have c7 := hN.cell (i := 7) (v := .int .i64 N.st) rfl
  have c8 := hN.cell (i := 8) (v := .int .i64 N.of) rfl
  have c9 := hN.cell (i := 9) (v := .int .i64 N.cm) rfl
  have c10 := hN.cell (i := 10) (v := .int .i64 N.cd) rfl
  have c11 := hN.cell (i := 11) (v := .slice N.opsA N.ops.length N.opsC) rfl
  clear hN
  have k10 : ¬ (N.ops.length : Int) = 0 := by omega
  go_enter Tryz.func83, Tryz.ntmps83
  go_wp2_with fail
  go_ret
  exact ⟨rfl, HB.out⟩
set_option maxHeartbeats 3200000 in
theorem bare_11 (b : Nat) (N : NoN) (w : World) (hN : NB w b N) (g0 : N.num = 0) (g1 : N.pri = 0) (g2 : N.bak = 0) (g3 : N.se = 0) (g4 : N.cn = 0) (g5 : N.rq = 0) (g6 : N.st = 0) (g7 : N.of = 0) (g8 : N.cm = 0) (g9 : N.cd = 0) (g10 : N.ops.length = 0) (g11 : ¬ (N.ents.length = 0)) : Calls Tryz.prog 83 #[.pointer (some ⟨b, 0, none⟩)] w fun e w' => e = .returned (.bool false) ∧ Below w.heap.size w w' := by
  have HN : Hid (NB w b N) := hN
  have HB : Hid (Below w.heap.size w w) := Below.refl _ _
  have c1 := hN.cell (i := 1) (v := .int .i64 N.num) rfl
  have c2 := hN.cell (i := 2) (v := .int .i64 N.pri) rfl
  have c3 := hN.cell (i := 3) (v := .int .i64 N.bak) rfl
  have c4 := hN.cell (i := 4) (v := .int .i64 N.se) rfl
  have c5 := hN.cell (i := 5) (v := .int .i64 N.cn) rfl
  have c6 := hN.cell (i := 6) (v := .int .i64 N.rq) rfl
  have c7 := hN.cell (i := 7) (v := .int .i64 N.st) rfl
  have c8 := hN.cell (i := 8) (v := .int .i64 N.of) rfl
  have c9 := hN.cell (i := 9) (v := .int .i64 N.cm) rfl
  have c10 := hN.cell (i := 10) (v := .int .i64 N.cd) rfl
  have c11 := hN.cell (i := 11) (v := .slice N.opsA N.ops.length N.opsC) rfl
  have c12 := hN.cell (i := 12) (v := .slice N.entsA N.ents.length N.entsC) rfl
  clear hN
  have k10 : (N.ops.length : Int) = 0 := by omega
  have k11 : ¬ (N.ents.length : Int) = 0 := by omega
  go_enter Tryz.func83, Tryz.ntmps83
  go_wp2_with fail
  go_ret
  exact ⟨rfl, HB.out⟩
end Go.Proofs.YtdjfeomdiljaeaaGreatDoor
namespace Go.Proofs.YtdjfeomdiljaeaaGreatDoor
open Go.RowKit
set_option linter.unusedVariables false
set_option linter.unusedSimpArgs false

set_option maxHeartbeats 3200000 in
theorem bare_6 (b : Nat) (N : NoN) (w : World) (hN : NB w b N) (g0 : N.num = 0) (g1 : N.pri = 0) (g2 : N.bak = 0) (g3 : N.se = 0) (g4 : N.cn = 0) (g5 : N.rq = 0) (g6 : ¬ (N.st = 0)) : Calls Tryz.prog 83 #[.pointer (some ⟨b, 0, none⟩)] w fun e w' => e = .returned (.bool false) ∧ Below w.heap.size w w' := by
  have HN : Hid (NB w b N) := hN
  have HB : Hid (Below w.heap.size w w) := Below.refl _ _
  have c1 := hN.cell (i := 1) (v := .int .i64 N.num) rfl
  have c2 := hN.cell (i := 2) (v := .int .i64 N.pri) rfl
  have c3 := hN.cell (i := 3) (v := .int .i64 N.bak) rfl
  have c4 := hN.cell (i := 4) (v := .int .i64 N.se) rfl
  have c5 := hN.cell (i := 5) (v := .int .i64 N.cn) rfl
  have c6 := hN.cell (i := 6) (v := .int .i64 N.rq) rfl
  have c7 := hN.cell (i := 7) (v := .int .i64 N.st) rfl
  clear hN
  go_enter Tryz.func83, Tryz.ntmps83
  go_wp2_with fail
  go_ret
  exact ⟨rfl, HB.out⟩
set_option maxHeartbeats 3200000 in
theorem bare_7 (b : Nat) (N : NoN) (w : World) (hN : NB w b N) (g0 : N.num = 0) (g1 : N.pri = 0) (g2 : N.bak = 0) (g3 : N.se = 0) (g4 : N.cn = 0) (g5 : N.rq = 0) (g6 : N.st = 0) (g7 : ¬ (N.of = 0)) : Calls Tryz.prog 83 #[.pointer (some ⟨b, 0, none⟩)] w fun e w' => e = .returned (.bool false) ∧ Below w.heap.size w w' := by
  have HN : Hid (NB w b N) := hN
  have HB : Hid (Below w.heap.size w w) := Below.refl _ _
  have c1 := hN.cell (i := 1) (v := .int .i64 N.num) rfl
  have c2 := hN.cell (i := 2) (v := .int .i64 N.pri) rfl
  have c3 := hN.cell (i := 3) (v := .int .i64 N.bak) rfl
  have c4 := hN.cell (i := 4) (v := .int .i64 N.se) rfl
  have c5 := hN.cell (i := 5) (v := .int .i64 N.cn) rfl
  have c6 := hN.cell (i := 6) (v := .int .i64 N.rq) rfl
  have c7 := hN.cell (i := 7) (v := .int .i64 N.st) rfl
  have c8 := hN.cell (i := 8) (v := .int .i64 N.of) rfl
  clear hN
  go_enter Tryz.func83, Tryz.ntmps83
  go_wp2_with fail
  go_ret
  exact ⟨rfl, HB.out⟩
set_option maxHeartbeats 3200000 in
theorem bare_8 (b : Nat) (N : NoN) (w : World) (hN : NB w b N) (g0 : N.num = 0) (g1 : N.pri = 0) (g2 : N.bak = 0) (g3 : N.se = 0) (g4 : N.cn = 0) (g5 : N.rq = 0) (g6 : N.st = 0) (g7 : N.of = 0) (g8 : ¬ (N.cm = 0)) : Calls Tryz.prog 83 #[.pointer (some ⟨b, 0, none⟩)] w fun e w' => e = .returned (.bool false) ∧ Below w.heap.size w w' := by
  have HN : Hid (NB w b N) := hN
  have HB : Hid (Below w.heap.size w w) := Below.refl _ _
  have c1 := hN.cell (i := 1) (v := .int .i64 N.num) rfl
  have c2 := hN.cell (i := 2) (v := .int .i64 N.pri) rfl
  have c3 := hN.cell (i := 3) (v := .int .i64 N.bak) rfl
  have c4 := hN.cell (i := 4) (v := .int .i64 N.se) rfl
  have c5 := hN.cell (i := 5) (v := .int .i64 N.cn) rfl
  have c6 := hN.cell (i := 6) (v := .int .i64 N.rq) rfl
  have c7 := hN.cell (i := 7) (v := .int .i64 N.st) rfl
  have c8 := hN.cell (i := 8) (v := .int .i64 N.of) rfl
  have c9 := hN.cell (i := 9) (v := .int .i64 N.cm) rfl
  clear hN
  go_enter Tryz.func83, Tryz.ntmps83
  go_wp2_with fail
  go_ret
  exact ⟨rfl, HB.out⟩
end Go.Proofs.YtdjfeomdiljaeaaGreatDoor
namespace Go.Proofs.YtdjfeomdiljaeaaGreatDoor
open Go.RowKit
set_option linter.unusedVariables false
set_option linter.unusedSimpArgs false

set_option maxHeartbeats 3200000 in
theorem bare_3 (b : Nat) (N : NoN) (w : World) (hN : NB w b N) (g0 : N.num = 0) (g1 : N.pri = 0) (g2 : N.bak = 0) (g3 : ¬ (N.se = 0)) : Calls Tryz.prog 83 #[.pointer (some ⟨b, 0, none⟩)] w fun e w' => e = .returned (.bool false) ∧ Below w.heap.size w w' := by
  have HN : Hid (NB w b N) := hN
  have HB : Hid (Below w.heap.size w w) := Below.refl _ _
  have c1 := hN.cell (i := 1) (v := .int .i64 N.num) rfl
  have c2 := hN.cell (i := 2) (v := .int .i64 N.pri) rfl
  have c3 := hN.cell (i := 3) (v := .int .i64 N.bak) rfl
  have c4 := hN.cell (i := 4) (v := .int .i64 N.se) rfl
  clear hN
  go_enter Tryz.func83, Tryz.ntmps83
  go_wp2_with fail
  go_ret
  exact ⟨rfl, HB.out⟩
set_option maxHeartbeats 3200000 in
theorem bare_4 (b : Nat) (N : NoN) (w : World) (hN : NB w b N) (g0 : N.num = 0) (g1 : N.pri = 0) (g2 : N.bak = 0) (g3 : N.se = 0) (g4 : ¬ (N.cn = 0)) : Calls Tryz.prog 83 #[.pointer (some ⟨b, 0, none⟩)] w fun e w' => e = .returned (.bool false) ∧ Below w.heap.size w w' := by
  have HN : Hid (NB w b N) := hN
  have HB : Hid (Below w.heap.size w w) := Below.refl _ _
  have c1 := hN.cell (i := 1) (v := .int .i64 N.num) rfl
  have c2 := hN.cell (i := 2) (v := .int .i64 N.pri) rfl
  have c3 := hN.cell (i := 3) (v := .int .i64 N.bak) rfl
  have c4 := hN.cell (i := 4) (v := .int .i64 N.se) rfl
  have c5 := hN.cell (i := 5) (v := .int .i64 N.cn) rfl
  clear hN
  go_enter Tryz.func83, Tryz.ntmps83
  go_wp2_with fail
  go_ret
  exact ⟨rfl, HB.out⟩
set_option maxHeartbeats 3200000 in
theorem bare_5 (b : Nat) (N : NoN) (w : World) (hN : NB w b N) (g0 : N.num = 0) (g1 : N.pri = 0) (g2 : N.bak = 0) (g3 : N.se = 0) (g4 : N.cn = 0) (g5 : ¬ (N.rq = 0)) : Calls Tryz.prog 83 #[.pointer (some ⟨b, 0, none⟩)] w fun e w' => e = .returned (.bool false) ∧ Below w.heap.size w w' := by
  have HN : Hid (NB w b N) := hN
  have HB : Hid (Below w.heap.size w w) := Below.refl _ _
  have c1 := hN.cell (i := 1) (v := .int .i64 N.num) rfl
  have c2 := hN.cell (i := 2) (v := .int .i64 N.pri) rfl
  have c3 := hN.cell (i := 3) (v := .int .i64 N.bak) rfl
  have c4 := hN.cell (i := 4) (v := .int .i64 N.se) rfl
  have c5 := hN.cell (i := 5) (v := .int .i64 N.cn) rfl
  have c6 := hN.cell (i := 6) (v := .int .i64 N.rq) rfl
  clear hN
  go_enter Tryz.func83, Tryz.ntmps83
  go_wp2_with fail
  go_ret
  exact ⟨rfl, HB.out⟩
end Go.Proofs.YtdjfeomdiljaeaaGreatDoor
namespace Go.Proofs.YtdjfeomdiljaeaaGreatDoor
open Go.RowKit
set_option linter.unusedVariables false
set_option linter.unusedSimpArgs false

set_option maxHeartbeats 3200000 in
theorem bare_0 (b : Nat) (N : NoN) (w : World) (hN : NB w b N)  (g0 : ¬ (N.num = 0)) : Calls Tryz.prog 83 #[.pointer (some ⟨b, 0, none⟩)] w fun e w' => e = .returned (.bool false) ∧ Below w.heap.size w w' := by
  have HN : Hid (NB w b N) := hN
  have HB : Hid (Below w.heap.size w w) := Below.refl _ _
  have c1 := hN.cell (i := 1) (v := .int .i64 N.num) rfl
  have c2 := hN.cell (i := 2) (v := .int .i64 N.pri) rfl
  have c3 := hN.cell (i := 3) (v := .int .i64 N.bak) rfl
  clear hN
  go_enter Tryz.func83, Tryz.ntmps83
  go_wp2_with fail
  go_ret
  exact ⟨rfl, HB.out⟩
set_option maxHeartbeats 3200000 in
theorem bare_1 (b : Nat) (N : NoN) (w : World) (hN : NB w b N) (g0 : N.num = 0) (g1 : ¬ (N.pri = 0)) : Calls Tryz.prog 83 #[.pointer (some ⟨b, 0, none⟩)] w fun e w' => e = .returned (.bool false) ∧ Below w.heap.size w w' := by
  have HN : Hid (NB w b N) := hN
  have HB : Hid (Below w.heap.size w w) := Below.refl _ _
  have c1 := hN.cell (i := 1) (v := .int .i64 N.num) rfl
  have c2 := hN.cell (i := 2) (v := .int .i64 N.pri) rfl
  have c3 := hN.cell (i := 3) (v := .int .i64 N.bak) rfl
  clear hN
  go_enter Tryz.func83, Tryz.ntmps83
  go_wp2_with fail
  go_ret
  exact ⟨rfl, HB.out⟩
set_option maxHeartbeats 3200000 in
theorem bare_2 (b : Nat) (N : NoN) (w : World) (hN : NB w b N) (g0 : N.num = 0) (g1 : N.pri = 0) (g2 : ¬ (N.bak = 0)) : Calls Tryz.prog 83 #[.pointer (some ⟨b, 0, none⟩)] w fun e w' => e = .returned (.bool false) ∧ Below w.heap.size w w' := by
  have HN : Hid (NB w b N) := hN
  have HB : Hid (Below w.heap.size w w) := Below.refl _ _
  have c1 := hN.cell (i := 1) (v := .int .i64 N.num) rfl
  have c2 := hN.cell (i := 2) (v := .int .i64 N.pri) rfl
  have c3 := hN.cell (i := 3) (v := .int .i64 N.bak) rfl
  clear hN
  go_enter Tryz.func83, Tryz.ntmps83
  go_wp2_with fail
  go_ret
  exact ⟨rfl, HB.out⟩
end Go.Proofs.YtdjfeomdiljaeaaGreatDoor
namespace Go.Proofs.YtdjfeomdiljaeaaGreatDoor
open Go.RowKit
set_option linter.unusedVariables false
set_option linter.unusedSimpArgs false

theorem bare_any (b : Nat) (N : NoN) (w : World) (hN : NB w b N) : Calls Tryz.prog 83 #[.pointer (some ⟨b, 0, none⟩)] w fun e w' => ∃ bb, e = .returned (.bool bb) ∧ (bb = true ↔ BareN N) ∧ Below w.heap.size w w' := by
  by_cases g0 : N.num = 0
  rotate_left
  · exact (bare_0 b N w hN g0).mono fun e w' h => ⟨false, h.1, ⟨fun h => (by cases h), fun g => absurd (g.1) g0⟩, h.2⟩
  by_cases g1 : N.pri = 0
  rotate_left
  · exact (bare_1 b N w hN g0 g1).mono fun e w' h => ⟨false, h.1, ⟨fun h => (by cases h), fun g => absurd (g.2.1) g1⟩, h.2⟩
  by_cases g2 : N.bak = 0
  rotate_left
  · exact (bare_2 b N w hN g0 g1 g2).mono fun e w' h => ⟨false, h.1, ⟨fun h => (by cases h), fun g => absurd (g.2.2.1) g2⟩, h.2⟩
  by_cases g3 : N.se = 0
  rotate_left
  · exact (bare_3 b N w hN g0 g1 g2 g3).mono fun e w' h => ⟨false, h.1, ⟨fun h => (by cases h), fun g => absurd (g.2.2.2.1) g3⟩, h.2⟩
  by_cases g4 : N.cn = 0
  rotate_left
  · exact (bare_4 b N w hN g0 g1 g2 g3 g4).mono fun e w' h => ⟨false, h.1, ⟨fun h => (by cases h), fun g => absurd (g.2.2.2.2.1) g4⟩, h.2⟩
  by_cases g5 : N.rq = 0
  rotate_left
  · exact (bare_5 b N w hN g0 g1 g2 g3 g4 g5).mono fun e w' h => ⟨false, h.1, ⟨fun h => (by cases h), fun g => absurd (g.2.2.2.2.2.1) g5⟩, h.2⟩
  by_cases g6 : N.st = 0
  rotate_left
  · exact (bare_6 b N w hN g0 g1 g2 g3 g4 g5 g6).mono fun e w' h => ⟨false, h.1, ⟨fun h => (by cases h), fun g => absurd (g.2.2.2.2.2.2.1) g6⟩, h.2⟩
  by_cases g7 : N.of = 0
  rotate_left
  · exact (bare_7 b N w hN g0 g1 g2 g3 g4 g5 g6 g7).mono fun e w' h => ⟨false, h.1, ⟨fun h => (by cases h), fun g => absurd (g.2.2.2.2.2.2.2.1) g7⟩, h.2⟩
  by_cases g8 : N.cm = 0
  rotate_left
  · exact (bare_8 b N w hN g0 g1 g2 g3 g4 g5 g6 g7 g8).mono fun e w' h => ⟨false, h.1, ⟨fun h => (by cases h), fun g => absurd (g.2.2.2.2.2.2.2.2.1) g8⟩, h.2⟩
  by_cases g9 : N.cd = 0
  rotate_left
  · exact (bare_9 b N w hN g0 g1 g2 g3 g4 g5 g6 g7 g8 g9).mono fun e w' h => ⟨false, h.1, ⟨fun h => (by cases h), fun g => absurd (g.2.2.2.2.2.2.2.2.2.1) g9⟩, h.2⟩
  by_cases g10 : N.ops.length = 0
  rotate_left
  · exact (bare_10 b N w hN g0 g1 g2 g3 g4 g5 g6 g7 g8 g9 g10).mono fun e w' h => ⟨false, h.1, ⟨fun h => (by cases h), fun g => absurd (g.2.2.2.2.2.2.2.2.2.2.1) g10⟩, h.2⟩
  by_cases g11 : N.ents.length = 0
  rotate_left
  · exact (bare_11 b N w hN g0 g1 g2 g3 g4 g5 g6 g7 g8 g9 g10 g11).mono fun e w' h => ⟨false, h.1, ⟨fun h => (by cases h), fun g => absurd (g.2.2.2.2.2.2.2.2.2.2.2.1) g11⟩, h.2⟩
  by_cases g12 : (N.rst = 0 ∧ N.rcd = 0 ∧ N.rat = 0 ∧ N.res.length = 0)
  rotate_left
  · exact (bare_12 b N w hN g0 g1 g2 g3 g4 g5 g6 g7 g8 g9 g10 g11 g12).mono fun e w' h => ⟨false, h.1, ⟨fun h => (by cases h), fun g => absurd (g.2.2.2.2.2.2.2.2.2.2.2.2.1) g12⟩, h.2⟩
  by_cases g13 : N.was.length = 0
  rotate_left
  · exact (bare_13 b N w hN g0 g1 g2 g3 g4 g5 g6 g7 g8 g9 g10 g11 g12 g13).mono fun e w' h => ⟨false, h.1, ⟨fun h => (by cases h), fun g => absurd (g.2.2.2.2.2.2.2.2.2.2.2.2.2.1) g13⟩, h.2⟩
  by_cases g14 : N.parts.length = 0
  rotate_left
  · exact (bare_14 b N w hN g0 g1 g2 g3 g4 g5 g6 g7 g8 g9 g10 g11 g12 g13 g14).mono fun e w' h => ⟨false, h.1, ⟨fun h => (by cases h), fun g => absurd (g.2.2.2.2.2.2.2.2.2.2.2.2.2.2.1) g14⟩, h.2⟩
  by_cases g15 : N.items.length = 0
  rotate_left
  · exact (bare_15 b N w hN g0 g1 g2 g3 g4 g5 g6 g7 g8 g9 g10 g11 g12 g13 g14 g15).mono fun e w' h => ⟨false, h.1, ⟨fun h => (by cases h), fun g => absurd (g.2.2.2.2.2.2.2.2.2.2.2.2.2.2.2.1) g15⟩, h.2⟩
  by_cases g16 : N.state.size = 0
  rotate_left
  · exact (bare_16 b N w hN g0 g1 g2 g3 g4 g5 g6 g7 g8 g9 g10 g11 g12 g13 g14 g15 g16).mono fun e w' h => ⟨false, h.1, ⟨fun h => (by cases h), fun g => absurd (g.2.2.2.2.2.2.2.2.2.2.2.2.2.2.2.2) g16⟩, h.2⟩
  exact (bare_17 b N w hN g0 g1 g2 g3 g4 g5 g6 g7 g8 g9 g10 g11 g12 g13 g14 g15 g16).mono fun e w' h => ⟨true, h.1, ⟨fun _ => ⟨g0, g1, g2, g3, g4, g5, g6, g7, g8, g9, g10, g11, g12, g13, g14, g15, g16⟩, fun _ => rfl⟩, h.2⟩
end Go.Proofs.YtdjfeomdiljaeaaGreatDoor
