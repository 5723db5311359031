/-
  note: a note that has nothing but its kind: cases.
-/
import Derived.Test.YtdjfeomdiljaeaaGreatDoorNtBare
namespace Go.Proofs.YtdjfeomdiljaeaaGreatDoor
open Go.RowKit
set_option linter.unusedVariables false
set_option linter.unusedSimpArgs false

set_option maxHeartbeats 3200000 in
theorem bare_15 (b : Nat) (N : NoN) (w : World) (hN : NB w b N) (g0 : N.num = 0) (g1 : N.pri = 0) (g2 : N.bak = 0) (g3 : N.se = 0) (g4 : N.cn = 0) (g5 : N.rq = 0) (g6 : N.st = 0) (g7 : N.of = 0) (g8 : N.cm = 0) (g9 : N.cd = 0) (g10 : N.ops.length = 0) (g11 : N.ents.length = 0) (g12 : (N.rst = 0 ∧ N.rcd = 0 ∧ N.rat = 0 ∧ N.res.length = 0)) (g13 : N.was.length = 0) (g14 : N.parts.length = 0) (g15 : ¬ (N.items.length = 0)) : Calls Tryz.prog 83 #[.pointer (some ⟨b, 0, none⟩)] w fun e w' => e = .returned (.bool false) ∧ Below w.heap.size w w' := by
  have HN : Hid (NB w b N) := hN
  have HB : Hid (Below w.heap.size w w) := Below.refl _ _
  have c1 := hN.cell (i := 1) (v := .int .i64 N.num) rfl
  have c2 := hN.cell (i := 2) (v := .int .i64 N.pri) rfl
  have c3 := hN.cell (i := 3) (v := .int .i64 N.bak) rfl
  have c4 := hN.cell (i := 4) (v := .int .i64 N.se) rfl
  have c5 := hN.cell (i := 5) (v := .int .i64 N.cn) rfl
  have c6 := hN.cell (i := 6) (v := .int .i64 N.rq) rfl
  have c7 := hN.cell (i := 7) (v := .int .i64 N.st) rfl
  have c8 := hN.cell (i := 8) (v := .int .i64 N.of) rfl
  have c9 := hN.cell (i := 9) (v := .int .i64 N.cm) rfl
  have c10 := hN.cell (i := 10) (v := .int .i64 N.cd) rfl
  have c11 := hN.cell (i := 11) (v := .slice N.opsA N.ops.length N.opsC) rfl
  have c12 := hN.cell (i := 12) (v := .slice N.entsA N.ents.length N.entsC) rfl
  have c13 := hN.cell (i := 13) (v := .int .i64 N.rst) rfl
  have c14 := hN.cell (i := 14) (v := .int .i64 N.rcd) rfl
  have c15 := hN.cell (i := 15) (v := .int .i64 N.rat) rfl
  have c16 := hN.cell (i := 16) (v := .slice N.resA N.res.length N.resC) rfl
  have c17 := hN.cell (i := 17) (v := .slice N.wasA N.was.length N.wasC) rfl
  have c18 := hN.cell (i := 18) (v := .slice N.partsA N.parts.length N.partsC) rfl
  have c19 := hN.cell (i := 19) (v := .slice N.itemsA N.items.length N.itemsC) rfl
  clear hN
  have k10 : (N.ops.length : Int) = 0 := by omega
  have k11 : (N.ents.length : Int) = 0 := by omega
  have HRV : Hid (Calls Tryz.prog 114 #[.agg #[.int .i64 N.rst, .int .i64 N.rcd, .int .i64 N.rat, .slice N.resA N.res.length N.resC]] w fun e w' => e = .returned (.bool true) ∧ Below w.heap.size w w') := Calls.mono (noReply_any N.rst N.rcd N.rat N.resA N.resC N.res.length w) fun e w' ⟨bb, he, hbb, hb⟩ => ⟨by rw [he, show bb = true from hbb.2 g12], hb⟩
  clear g12
  have k13 : (N.was.length : Int) = 0 := by omega
  have k14 : (N.parts.length : Int) = 0 := by omega
  have k15 : ¬ (N.items.length : Int) = 0 := by omega
  go_enter Tryz.func83, Tryz.ntmps83
  go_wp2_with (first
    | (go_at_call 114; refine Calls.mono HRV.out ?_; rintro e w1 ⟨rfl, hb⟩
       have HN1 : Hid (NB w1 b N) := kept_block hb HN.out
       clear HB
       have HB : Hid (Below w.heap.size w w1) := hb
       clear hb c1 c2 c3 c4 c5 c6 c7 c8 c9 c10 c11 c12 c13 c14 c15 c16 c17 c18 c19
       have c17 := HN1.out.cell (i := 17) (v := .slice N.wasA N.was.length N.wasC) rfl
       have c18 := HN1.out.cell (i := 18) (v := .slice N.partsA N.parts.length N.partsC) rfl
       have c19 := HN1.out.cell (i := 19) (v := .slice N.itemsA N.items.length N.itemsC) rfl
       skip)
    | fail)
  go_ret
  exact ⟨rfl, HB.out⟩
set_option maxHeartbeats 3200000 in
theorem bare_16 (b : Nat) (N : NoN) (w : World) (hN : NB w b N) (g0 : N.num = 0) (g1 : N.pri = 0) (g2 : N.bak = 0) (g3 : N.se = 0) (g4 : N.cn = 0) (g5 : N.rq = 0) (g6 : N.st = 0) (g7 : N.of = 0) (g8 : N.cm = 0) (g9 : N.cd = 0) (g10 : N.ops.length = 0) (g11 : N.ents.length = 0) (g12 : (N.rst = 0 ∧ N.rcd = 0 ∧ N.rat = 0 ∧ N.res.length = 0)) (g13 : N.was.length = 0) (g14 : N.parts.length = 0) (g15 : N.items.length = 0) (g16 : ¬ (N.state.size = 0)) : Calls Tryz.prog 83 #[.pointer (some ⟨b, 0, none⟩)] w fun e w' => e = .returned (.bool false) ∧ Below w.heap.size w w' := by
  have HN : Hid (NB w b N) := hN
  have HB : Hid (Below w.heap.size w w) := Below.refl _ _
  have c1 := hN.cell (i := 1) (v := .int .i64 N.num) rfl
  have c2 := hN.cell (i := 2) (v := .int .i64 N.pri) rfl
  have c3 := hN.cell (i := 3) (v := .int .i64 N.bak) rfl
  have c4 := hN.cell (i := 4) (v := .int .i64 N.se) rfl
  have c5 := hN.cell (i := 5) (v := .int .i64 N.cn) rfl
  have c6 := hN.cell (i := 6) (v := .int .i64 N.rq) rfl
  have c7 := hN.cell (i := 7) (v := .int .i64 N.st) rfl
  have c8 := hN.cell (i := 8) (v := .int .i64 N.of) rfl
  have c9 := hN.cell (i := 9) (v := .int .i64 N.cm) rfl
  have c10 := hN.cell (i := 10) (v := .int .i64 N.cd) rfl
  have c11 := hN.cell (i := 11) (v := .slice N.opsA N.ops.length N.opsC) rfl
  have c12 := hN.cell (i := 12) (v := .slice N.entsA N.ents.length N.entsC) rfl
  have c13 := hN.cell (i := 13) (v := .int .i64 N.rst) rfl
  have c14 := hN.cell (i := 14) (v := .int .i64 N.rcd) rfl
  have c15 := hN.cell (i := 15) (v := .int .i64 N.rat) rfl
  have c16 := hN.cell (i := 16) (v := .slice N.resA N.res.length N.resC) rfl
  have c17 := hN.cell (i := 17) (v := .slice N.wasA N.was.length N.wasC) rfl
  have c18 := hN.cell (i := 18) (v := .slice N.partsA N.parts.length N.partsC) rfl
  have c19 := hN.cell (i := 19) (v := .slice N.itemsA N.items.length N.itemsC) rfl
  have c20 := hN.cell (i := 20) (v := .string N.state) rfl
  clear hN
  have k10 : (N.ops.length : Int) = 0 := by omega
  have k11 : (N.ents.length : Int) = 0 := by omega
  have HRV : Hid (Calls Tryz.prog 114 #[.agg #[.int .i64 N.rst, .int .i64 N.rcd, .int .i64 N.rat, .slice N.resA N.res.length N.resC]] w fun e w' => e = .returned (.bool true) ∧ Below w.heap.size w w') := Calls.mono (noReply_any N.rst N.rcd N.rat N.resA N.resC N.res.length w) fun e w' ⟨bb, he, hbb, hb⟩ => ⟨by rw [he, show bb = true from hbb.2 g12], hb⟩
  clear g12
  have k13 : (N.was.length : Int) = 0 := by omega
  have k14 : (N.parts.length : Int) = 0 := by omega
  have k15 : (N.items.length : Int) = 0 := by omega
  have k16 : N.state.toList.isEmpty = false := by rw [emp_iff]; simpa using g16
  go_enter Tryz.func83, Tryz.ntmps83
  go_wp2_with (first
    | (go_at_call 114; refine Calls.mono HRV.out ?_; rintro e w1 ⟨rfl, hb⟩
       have HN1 : Hid (NB w1 b N) := kept_block hb HN.out
       clear HB
       have HB : Hid (Below w.heap.size w w1) := hb
       clear hb c1 c2 c3 c4 c5 c6 c7 c8 c9 c10 c11 c12 c13 c14 c15 c16 c17 c18 c19 c20
       have c17 := HN1.out.cell (i := 17) (v := .slice N.wasA N.was.length N.wasC) rfl
       have c18 := HN1.out.cell (i := 18) (v := .slice N.partsA N.parts.length N.partsC) rfl
       have c19 := HN1.out.cell (i := 19) (v := .slice N.itemsA N.items.length N.itemsC) rfl
       have c20 := HN1.out.cell (i := 20) (v := .string N.state) rfl
       skip)
    | fail)
  go_ret
  exact ⟨rfl, HB.out⟩
set_option maxHeartbeats 3200000 in
theorem bare_17 (b : Nat) (N : NoN) (w : World) (hN : NB w b N) (g0 : N.num = 0) (g1 : N.pri = 0) (g2 : N.bak = 0) (g3 : N.se = 0) (g4 : N.cn = 0) (g5 : N.rq = 0) (g6 : N.st = 0) (g7 : N.of = 0) (g8 : N.cm = 0) (g9 : N.cd = 0) (g10 : N.ops.length = 0) (g11 : N.ents.length = 0) (g12 : (N.rst = 0 ∧ N.rcd = 0 ∧ N.rat = 0 ∧ N.res.length = 0)) (g13 : N.was.length = 0) (g14 : N.parts.length = 0) (g15 : N.items.length = 0) (g16 : N.state.size = 0) : Calls Tryz.prog 83 #[.pointer (some ⟨b, 0, none⟩)] w fun e w' => e = .returned (.bool true) ∧ Below w.heap.size w w' := by
  have HN : Hid (NB w b N) := hN
  have HB : Hid (Below w.heap.size w w) := Below.refl _ _
  have c1 := hN.cell (i := 1) (v := .int .i64 N.num) rfl
  have c2 := hN.cell (i := 2) (v := .int .i64 N.pri) rfl
  have c3 := hN.cell (i := 3) (v := .int .i64 N.bak) rfl
  have c4 := hN.cell (i := 4) (v := .int .i64 N.se) rfl
  have c5 := hN.cell (i := 5) (v := .int .i64 N.cn) rfl
  have c6 := hN.cell (i := 6) (v := .int .i64 N.rq) rfl
  have c7 := hN.cell (i := 7) (v := .int .i64 N.st) rfl
  have c8 := hN.cell (i := 8) (v := .int .i64 N.of) rfl
  have c9 := hN.cell (i := 9) (v := .int .i64 N.cm) rfl
  have c10 := hN.cell (i := 10) (v := .int .i64 N.cd) rfl
  have c11 := hN.cell (i := 11) (v := .slice N.opsA N.ops.length N.opsC) rfl
  have c12 := hN.cell (i := 12) (v := .slice N.entsA N.ents.length N.entsC) rfl
  have c13 := hN.cell (i := 13) (v := .int .i64 N.rst) rfl
  have c14 := hN.cell (i := 14) (v := .int .i64 N.rcd) rfl
  have c15 := hN.cell (i := 15) (v := .int .i64 N.rat) rfl
  have c16 := hN.cell (i := 16) (v := .slice N.resA N.res.length N.resC) rfl
  have c17 := hN.cell (i := 17) (v := .slice N.wasA N.was.length N.wasC) rfl
  have c18 := hN.cell (i := 18) (v := .slice N.partsA N.parts.length N.partsC) rfl
  have c19 := hN.cell (i := 19) (v := .slice N.itemsA N.items.length N.itemsC) rfl
  have c20 := hN.cell (i := 20) (v := .string N.state) rfl
  clear hN
  have k10 : (N.ops.length : Int) = 0 := by omega
  have k11 : (N.ents.length : Int) = 0 := by omega
  have HRV : Hid (Calls Tryz.prog 114 #[.agg #[.int .i64 N.rst, .int .i64 N.rcd, .int .i64 N.rat, .slice N.resA N.res.length N.resC]] w fun e w' => e = .returned (.bool true) ∧ Below w.heap.size w w') := Calls.mono (noReply_any N.rst N.rcd N.rat N.resA N.resC N.res.length w) fun e w' ⟨bb, he, hbb, hb⟩ => ⟨by rw [he, show bb = true from hbb.2 g12], hb⟩
  clear g12
  have k13 : (N.was.length : Int) = 0 := by omega
  have k14 : (N.parts.length : Int) = 0 := by omega
  have k15 : (N.items.length : Int) = 0 := by omega
  have k16 : N.state.toList.isEmpty = true := by rw [emp_iff]; simpa using g16
  go_enter Tryz.func83, Tryz.ntmps83
  go_wp2_with (first
    | (go_at_call 114; refine Calls.mono HRV.out ?_; rintro e w1 ⟨rfl, hb⟩
       have HN1 : Hid (NB w1 b N) := kept_block hb HN.out
       clear HB
       have HB : Hid (Below w.heap.size w w1) := hb
       clear hb c1 c2 c3 c4 c5 c6 c7 c8 c9 c10 c11 c12 c13 c14 c15 c16 c17 c18 c19 c20
       have c17 := HN1.out.cell (i := 17) (v := .slice N.wasA N.was.length N.wasC) rfl
       have c18 := HN1.out.cell (i := 18) (v := .slice N.partsA N.parts.length N.partsC) rfl
       have c19 := HN1.out.cell (i := 19) (v := .slice N.itemsA N.items.length N.itemsC) rfl
       have c20 := HN1.out.cell (i := 20) (v := .string N.state) rfl
       skip)
    | fail)
  go_ret
  exact ⟨rfl, HB.out⟩
end Go.Proofs.YtdjfeomdiljaeaaGreatDoor
