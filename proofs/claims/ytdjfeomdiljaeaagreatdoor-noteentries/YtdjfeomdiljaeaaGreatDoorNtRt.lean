/-
  note: the document's rights: numbers, ops, entries.
-/
import Derived.Test.YtdjfeomdiljaeaaGreatDoorNtEn
namespace Go.Proofs.YtdjfeomdiljaeaaGreatDoor
open Go.RowKit
set_option linter.unusedVariables false
set_option linter.unusedSimpArgs false

/-- A question's end. -/
def BK (P : Prop) (w : World) (e : Ending) (w' : World) : Prop := ∃ b : Bool, e = .returned (.bool b) ∧ (b = true ↔ P) ∧ Below w.heap.size w w'
theorem BK.yes {P : Prop} {w w' : World} (h : P) (hb : Below w.heap.size w w') : BK P w (.returned (.bool true)) w' := ⟨true, rfl, ⟨fun _ => h, fun _ => rfl⟩, hb⟩
theorem BK.no {P : Prop} {w w' : World} (h : ¬ P) (hb : Below w.heap.size w w') : BK P w (.returned (.bool false)) w' := ⟨false, rfl, ⟨fun e => (by cases e), fun g => absurd g h⟩, hb⟩
theorem rn_ok (v : Int) (h : 0 ≤ v ∧ v ≤ 2147483647) (w : World) : Calls Tryz.prog 75 #[.int .i64 v] w fun e w' => e = .returned (.bool true) ∧ w' = w := by
  obtain ⟨h1, h2⟩ := h
  go_enter Tryz.func75, Tryz.ntmps75
  go_wp2_with fail
  go_ret
  exact ⟨rfl, rfl⟩
theorem rn_no (v : Int) (h : ¬ (0 ≤ v ∧ v ≤ 2147483647)) (w : World) : Calls Tryz.prog 75 #[.int .i64 v] w fun e w' => e = .returned (.bool false) ∧ w' = w := by
  by_cases h1 : (0 : Int) ≤ v
  · have h2 : ¬ v ≤ 2147483647 := fun g => h ⟨h1, g⟩
    go_enter Tryz.func75, Tryz.ntmps75
    go_wp2_with fail
    go_ret
    exact ⟨rfl, rfl⟩
  · go_enter Tryz.func75, Tryz.ntmps75
    go_wp2_with fail
    go_ret
    exact ⟨rfl, rfl⟩
theorem rc_ok (v : Int) (h : 1 ≤ v ∧ v ≤ 2147483647) (w : World) : Calls Tryz.prog 74 #[.int .i64 v] w fun e w' => e = .returned (.bool true) ∧ w' = w := by
  obtain ⟨h1, h2⟩ := h
  go_enter Tryz.func74, Tryz.ntmps74
  go_wp2_with fail
  go_ret
  exact ⟨rfl, rfl⟩
theorem rc_no (v : Int) (h : ¬ (1 ≤ v ∧ v ≤ 2147483647)) (w : World) : Calls Tryz.prog 74 #[.int .i64 v] w fun e w' => e = .returned (.bool false) ∧ w' = w := by
  by_cases h1 : (1 : Int) ≤ v
  · have h2 : ¬ v ≤ 2147483647 := fun g => h ⟨h1, g⟩
    go_enter Tryz.func74, Tryz.ntmps74
    go_wp2_with fail
    go_ret
    exact ⟨rfl, rfl⟩
  · go_enter Tryz.func74, Tryz.ntmps74
    go_wp2_with fail
    go_ret
    exact ⟨rfl, rfl⟩
set_option maxHeartbeats 6400000 in
set_option maxRecDepth 100000 in
theorem rops_any (a : Option Addr) (c : Nat) (L : List OpN) (w : World) (hL : RowC w a 5 (L.map OpN.cl)) :
    Calls Tryz.prog 45 #[.slice a L.length c] w (BK (L.length ≤ 4 ∧ ∀ x ∈ L, OpN.Ok x) w) := by
  have HL : Hid (RowC w a 5 (L.map OpN.cl)) := hL
  obtain ⟨ok, hok⟩ : ∃ ok : Prop, (L.length ≤ 4 ∧ ∀ x ∈ L, OpN.Ok x) = ok := ⟨_, rfl⟩
  have HOK : Hid (ok = (L.length ≤ 4 ∧ ∀ x ∈ L, OpN.Ok x)) := hok.symm
  obtain ⟨m, hm⟩ : ∃ m, L.length = m := ⟨_, rfl⟩
  have HM : Hid (L.length = m) := hm
  have hlen := hL.len
  rw [hm] at hlen
  rw [hok, hm]
  clear hok hm hL
  go_enter Tryz.func45, Tryz.ntmps45
  go_wp2_with fail
  go_loopw [3] (fun iv wr => ∃ q : Nat, iv = .int .i64 q ∧ q ≤ m ∧ Hid (∀ j x, j < q → L[j]? = some x → OpN.Ok x) ∧ Hid (Below w.heap.size w wr)) (fun iv _ => m - (intOf iv).toNat)
  case atStart => exact ⟨0, rfl, Nat.zero_le _, fun j x h => absurd h (by omega), Below.refl _ _⟩
  case round =>
    obtain ⟨q, rfl, hqm, HDo, HBr⟩ := hrel
    by_cases hlt : q < m
    · have hlt' : (q : Int) < (m : Int) := by omega
      obtain ⟨x, hx⟩ : ∃ x, L[q]? = some x := ⟨L[q]'(by rw [HM.out]; exact hlt), List.getElem?_eq_getElem _⟩
      have HX : Hid (L[q]? = some x) := hx
      obtain ⟨b, o, rfl, n0, n1, n2, n3, n4⟩ := (HL.out.below HBr.out).at5 (map_at hx)
      clear hx
      obtain ⟨K, p, d, vr, fl⟩ := x
      by_cases h1 : 0 ≤ K ∧ K ≤ 2147483647
      rotate_left
      · go_wp2_with (first
                    | (go_at_call 75; refine Calls.mono (rn_ok _ (by assumption) _) ?_; rintro e w1 ⟨rfl, rfl⟩)
                    | (go_at_call 75; refine Calls.mono (rn_no _ (by assumption) _) ?_; rintro e w1 ⟨rfl, rfl⟩)
                    | (go_at_call 74; refine Calls.mono (rc_ok _ (by assumption) _) ?_; rintro e w1 ⟨rfl, rfl⟩)
                    | (go_at_call 74; refine Calls.mono (rc_no _ (by assumption) _) ?_; rintro e w1 ⟨rfl, rfl⟩)
                    | fail)
        go_ret
        exact BK.no (by rw [HOK.out]; exact fun g => (fun t : OpN.Ok ⟨K, p, d, vr, fl⟩ => h1 (t.1 K (by simp))) (g.2 _ (List.mem_of_getElem? HX.out))) (by repeat (first | exact HBr.out | refine ext_set ?_ (by first | exact Nat.le_refl _ | exact HBr.out.size) | refine ext_alloc ?_ _))
      by_cases h2 : 0 ≤ fl ∧ fl ≤ 2147483647
      rotate_left
      · go_wp2_with (first
                    | (go_at_call 75; refine Calls.mono (rn_ok _ (by assumption) _) ?_; rintro e w1 ⟨rfl, rfl⟩)
                    | (go_at_call 75; refine Calls.mono (rn_no _ (by assumption) _) ?_; rintro e w1 ⟨rfl, rfl⟩)
                    | (go_at_call 74; refine Calls.mono (rc_ok _ (by assumption) _) ?_; rintro e w1 ⟨rfl, rfl⟩)
                    | (go_at_call 74; refine Calls.mono (rc_no _ (by assumption) _) ?_; rintro e w1 ⟨rfl, rfl⟩)
                    | fail)
        go_ret
        exact BK.no (by rw [HOK.out]; exact fun g => (fun t : OpN.Ok ⟨K, p, d, vr, fl⟩ => h2 (t.1 fl (by simp))) (g.2 _ (List.mem_of_getElem? HX.out))) (by repeat (first | exact HBr.out | refine ext_set ?_ (by first | exact Nat.le_refl _ | exact HBr.out.size) | refine ext_alloc ?_ _))
      have H12 : Hid (0 ≤ K ∧ K ≤ 2147483647) := h1
      by_cases hp : (p.size : Int) ≤ 256
      · by_cases hd : (d.size : Int) ≤ 256
        · by_cases hv : vr = -1
          · have hv' : (vr != -1) = false := by simpa using hv
            go_wp2_with (first
                    | (go_at_call 75; refine Calls.mono (rn_ok _ (by assumption) _) ?_; rintro e w1 ⟨rfl, rfl⟩)
                    | (go_at_call 75; refine Calls.mono (rn_no _ (by assumption) _) ?_; rintro e w1 ⟨rfl, rfl⟩)
                    | (go_at_call 74; refine Calls.mono (rc_ok _ (by assumption) _) ?_; rintro e w1 ⟨rfl, rfl⟩)
                    | (go_at_call 74; refine Calls.mono (rc_no _ (by assumption) _) ?_; rintro e w1 ⟨rfl, rfl⟩)
                    | fail)
            have HD1 : Hid (∀ j x, j < q + 1 → L[j]? = some x → OpN.Ok x) := fun j y hj hy => by
              by_cases e : j = q
              · subst e
                rw [HX.out] at hy
                cases hy
                exact ⟨by intro n hn; simp at hn; rcases hn with rfl | rfl <;> assumption, by omega, hp, hd⟩
              · exact HDo.out j y (by omega) hy
            go_roundw
            case rel => exact ⟨q + 1, by go_num, by omega, HD1, (by repeat (first | exact HBr.out | refine ext_set ?_ (by first | exact Nat.le_refl _ | exact HBr.out.size) | refine ext_alloc ?_ _))⟩
            case measure => simp [intOf]; omega
          · have hv' : (vr != -1) = true := by simpa using hv
            by_cases h3 : 0 ≤ vr ∧ vr ≤ 2147483647
            · go_wp2_with (first
                    | (go_at_call 75; refine Calls.mono (rn_ok _ (by assumption) _) ?_; rintro e w1 ⟨rfl, rfl⟩)
                    | (go_at_call 75; refine Calls.mono (rn_no _ (by assumption) _) ?_; rintro e w1 ⟨rfl, rfl⟩)
                    | (go_at_call 74; refine Calls.mono (rc_ok _ (by assumption) _) ?_; rintro e w1 ⟨rfl, rfl⟩)
                    | (go_at_call 74; refine Calls.mono (rc_no _ (by assumption) _) ?_; rintro e w1 ⟨rfl, rfl⟩)
                    | fail)
              have HD1 : Hid (∀ j x, j < q + 1 → L[j]? = some x → OpN.Ok x) := fun j y hj hy => by
                by_cases e : j = q
                · subst e
                  rw [HX.out] at hy
                  cases hy
                  exact ⟨by intro n hn; simp at hn; rcases hn with rfl | rfl <;> assumption, by omega, hp, hd⟩
                · exact HDo.out j y (by omega) hy
              go_roundw
              case rel => exact ⟨q + 1, by go_num, by omega, HD1, (by repeat (first | exact HBr.out | refine ext_set ?_ (by first | exact Nat.le_refl _ | exact HBr.out.size) | refine ext_alloc ?_ _))⟩
              case measure => simp [intOf]; omega
            · go_wp2_with (first
                    | (go_at_call 75; refine Calls.mono (rn_ok _ (by assumption) _) ?_; rintro e w1 ⟨rfl, rfl⟩)
                    | (go_at_call 75; refine Calls.mono (rn_no _ (by assumption) _) ?_; rintro e w1 ⟨rfl, rfl⟩)
                    | (go_at_call 74; refine Calls.mono (rc_ok _ (by assumption) _) ?_; rintro e w1 ⟨rfl, rfl⟩)
                    | (go_at_call 74; refine Calls.mono (rc_no _ (by assumption) _) ?_; rintro e w1 ⟨rfl, rfl⟩)
                    | fail)
              go_ret
              exact BK.no (by rw [HOK.out]; exact fun g => (fun t : OpN.Ok ⟨K, p, d, vr, fl⟩ => by have t2 := t.2.1; omega) (g.2 _ (List.mem_of_getElem? HX.out))) (by repeat (first | exact HBr.out | refine ext_set ?_ (by first | exact Nat.le_refl _ | exact HBr.out.size) | refine ext_alloc ?_ _))
        · have hd' : (256 : Int) < (d.size : Int) := by omega
          by_cases hv : vr = -1
          · have hv' : (vr != -1) = false := by simpa using hv
            go_wp2_with (first
                    | (go_at_call 75; refine Calls.mono (rn_ok _ (by assumption) _) ?_; rintro e w1 ⟨rfl, rfl⟩)
                    | (go_at_call 75; refine Calls.mono (rn_no _ (by assumption) _) ?_; rintro e w1 ⟨rfl, rfl⟩)
                    | (go_at_call 74; refine Calls.mono (rc_ok _ (by assumption) _) ?_; rintro e w1 ⟨rfl, rfl⟩)
                    | (go_at_call 74; refine Calls.mono (rc_no _ (by assumption) _) ?_; rintro e w1 ⟨rfl, rfl⟩)
                    | fail)
            go_ret
            exact BK.no (by rw [HOK.out]; exact fun g => (fun t : OpN.Ok ⟨K, p, d, vr, fl⟩ => by have t2 := t.2.2.2; omega) (g.2 _ (List.mem_of_getElem? HX.out))) (by repeat (first | exact HBr.out | refine ext_set ?_ (by first | exact Nat.le_refl _ | exact HBr.out.size) | refine ext_alloc ?_ _))
          · have hv' : (vr != -1) = true := by simpa using hv
            by_cases h3 : 0 ≤ vr ∧ vr ≤ 2147483647
            · go_wp2_with (first
                    | (go_at_call 75; refine Calls.mono (rn_ok _ (by assumption) _) ?_; rintro e w1 ⟨rfl, rfl⟩)
                    | (go_at_call 75; refine Calls.mono (rn_no _ (by assumption) _) ?_; rintro e w1 ⟨rfl, rfl⟩)
                    | (go_at_call 74; refine Calls.mono (rc_ok _ (by assumption) _) ?_; rintro e w1 ⟨rfl, rfl⟩)
                    | (go_at_call 74; refine Calls.mono (rc_no _ (by assumption) _) ?_; rintro e w1 ⟨rfl, rfl⟩)
                    | fail)
              go_ret
              exact BK.no (by rw [HOK.out]; exact fun g => (fun t : OpN.Ok ⟨K, p, d, vr, fl⟩ => by have t2 := t.2.2.2; omega) (g.2 _ (List.mem_of_getElem? HX.out))) (by repeat (first | exact HBr.out | refine ext_set ?_ (by first | exact Nat.le_refl _ | exact HBr.out.size) | refine ext_alloc ?_ _))
            · go_wp2_with (first
                    | (go_at_call 75; refine Calls.mono (rn_ok _ (by assumption) _) ?_; rintro e w1 ⟨rfl, rfl⟩)
                    | (go_at_call 75; refine Calls.mono (rn_no _ (by assumption) _) ?_; rintro e w1 ⟨rfl, rfl⟩)
                    | (go_at_call 74; refine Calls.mono (rc_ok _ (by assumption) _) ?_; rintro e w1 ⟨rfl, rfl⟩)
                    | (go_at_call 74; refine Calls.mono (rc_no _ (by assumption) _) ?_; rintro e w1 ⟨rfl, rfl⟩)
                    | fail)
              go_ret
              exact BK.no (by rw [HOK.out]; exact fun g => (fun t : OpN.Ok ⟨K, p, d, vr, fl⟩ => by have t2 := t.2.1; omega) (g.2 _ (List.mem_of_getElem? HX.out))) (by repeat (first | exact HBr.out | refine ext_set ?_ (by first | exact Nat.le_refl _ | exact HBr.out.size) | refine ext_alloc ?_ _))
      · by_cases hv : vr = -1
        · have hv' : (vr != -1) = false := by simpa using hv
          go_wp2_with (first
                    | (go_at_call 75; refine Calls.mono (rn_ok _ (by assumption) _) ?_; rintro e w1 ⟨rfl, rfl⟩)
                    | (go_at_call 75; refine Calls.mono (rn_no _ (by assumption) _) ?_; rintro e w1 ⟨rfl, rfl⟩)
                    | (go_at_call 74; refine Calls.mono (rc_ok _ (by assumption) _) ?_; rintro e w1 ⟨rfl, rfl⟩)
                    | (go_at_call 74; refine Calls.mono (rc_no _ (by assumption) _) ?_; rintro e w1 ⟨rfl, rfl⟩)
                    | fail)
          go_ret
          exact BK.no (by rw [HOK.out]; exact fun g => (fun t : OpN.Ok ⟨K, p, d, vr, fl⟩ => by have t2 := t.2.2.1; omega) (g.2 _ (List.mem_of_getElem? HX.out))) (by repeat (first | exact HBr.out | refine ext_set ?_ (by first | exact Nat.le_refl _ | exact HBr.out.size) | refine ext_alloc ?_ _))
        · have hv' : (vr != -1) = true := by simpa using hv
          by_cases h3 : 0 ≤ vr ∧ vr ≤ 2147483647
          · go_wp2_with (first
                    | (go_at_call 75; refine Calls.mono (rn_ok _ (by assumption) _) ?_; rintro e w1 ⟨rfl, rfl⟩)
                    | (go_at_call 75; refine Calls.mono (rn_no _ (by assumption) _) ?_; rintro e w1 ⟨rfl, rfl⟩)
                    | (go_at_call 74; refine Calls.mono (rc_ok _ (by assumption) _) ?_; rintro e w1 ⟨rfl, rfl⟩)
                    | (go_at_call 74; refine Calls.mono (rc_no _ (by assumption) _) ?_; rintro e w1 ⟨rfl, rfl⟩)
                    | fail)
            go_ret
            exact BK.no (by rw [HOK.out]; exact fun g => (fun t : OpN.Ok ⟨K, p, d, vr, fl⟩ => by have t2 := t.2.2.1; omega) (g.2 _ (List.mem_of_getElem? HX.out))) (by repeat (first | exact HBr.out | refine ext_set ?_ (by first | exact Nat.le_refl _ | exact HBr.out.size) | refine ext_alloc ?_ _))
          · go_wp2_with (first
                    | (go_at_call 75; refine Calls.mono (rn_ok _ (by assumption) _) ?_; rintro e w1 ⟨rfl, rfl⟩)
                    | (go_at_call 75; refine Calls.mono (rn_no _ (by assumption) _) ?_; rintro e w1 ⟨rfl, rfl⟩)
                    | (go_at_call 74; refine Calls.mono (rc_ok _ (by assumption) _) ?_; rintro e w1 ⟨rfl, rfl⟩)
                    | (go_at_call 74; refine Calls.mono (rc_no _ (by assumption) _) ?_; rintro e w1 ⟨rfl, rfl⟩)
                    | fail)
            go_ret
            exact BK.no (by rw [HOK.out]; exact fun g => (fun t : OpN.Ok ⟨K, p, d, vr, fl⟩ => by have t2 := t.2.1; omega) (g.2 _ (List.mem_of_getElem? HX.out))) (by repeat (first | exact HBr.out | refine ext_set ?_ (by first | exact Nat.le_refl _ | exact HBr.out.size) | refine ext_alloc ?_ _))
    · have hlt' : ¬ (q : Int) < (m : Int) := by omega
      have hall : ∀ x ∈ L, OpN.Ok x := by
        intro x hx
        obtain ⟨j, hj, e⟩ := List.getElem_of_mem hx
        have := HM.out
        exact HDo.out j x (by omega) (by rw [List.getElem?_eq_getElem hj, e])
      have HAL : Hid (∀ x ∈ L, OpN.Ok x) := hall
      clear hall
      by_cases h4 : (m : Int) ≤ 4
      · go_wp2_with fail
        go_ret
        exact BK.yes (by rw [HOK.out]; exact ⟨by have := HM.out; omega, HAL.out⟩) HBr.out
      · go_wp2_with fail
        go_ret
        exact BK.no (by rw [HOK.out]; exact fun g => by have := HM.out; have := g.1; omega) HBr.out
set_option maxHeartbeats 6400000 in
set_option maxRecDepth 100000 in
theorem ren_core (st vw K se rq : Int) (opsA : Option Addr) (opsC : Nat) (ops : List OpN) (w : World) (hA : RowC w opsA 5 (ops.map OpN.cl)) :
    Calls Tryz.prog 27 #[.agg #[.int .i64 st, .int .i64 vw, .int .i64 K, .int .i64 se, .int .i64 rq, .slice opsA ops.length opsC]] w (BK (EnN.Ok ⟨st, vw, K, se, rq, opsA, opsC, ops⟩) w) := by
  obtain ⟨ok, hok⟩ : ∃ ok : Prop, EnN.Ok ⟨st, vw, K, se, rq, opsA, opsC, ops⟩ = ok := ⟨_, rfl⟩
  have HOK : Hid (ok = EnN.Ok ⟨st, vw, K, se, rq, opsA, opsC, ops⟩) := hok.symm
  rw [hok]
  obtain ⟨w0, hw0⟩ : ∃ w0, w.alloc (.cells #[.int .i64 st, .int .i64 vw, .int .i64 K, .int .i64 se, .int .i64 rq, .slice opsA ops.length opsC] 24) = w0 := ⟨_, rfl⟩
  have HB0 : Hid (Below w.heap.size w w0) := by rw [← hw0]; exact (Below.refl _ _).alloc (Nat.le_refl _) _
  have HE0 : Hid (w0.heap[w.heap.size]? = some (.cells #[.int .i64 st, .int .i64 vw, .int .i64 K, .int .i64 se, .int .i64 rq, .slice opsA ops.length opsC] 24 (0, 0))) := by show _ = _; rw [← hw0]; exact heap_alloc_new _ _
  have HW : Hid (w.alloc (.cells #[.int .i64 st, .int .i64 vw, .int .i64 K, .int .i64 se, .int .i64 rq, .slice opsA ops.length opsC] 24) = w0) := hw0
  have HR : Hid _ := rops_any opsA opsC ops w0 (hA.below HB0.out)
  clear hw0 hok hA
  obtain ⟨c0, c1, c2, c3, c4, c5⟩ := cells_6N HE0.out
  go_enter Tryz.func27, Tryz.ntmps27
  go_upto_region 1 with fail
  rw [HW.out]
  by_cases h1 : 1 ≤ st ∧ st ≤ 2147483647
  rotate_left
  · go_wp2_with (first
                    | (go_at_call 75; refine Calls.mono (rn_ok _ (by assumption) _) ?_; rintro e w1 ⟨rfl, rfl⟩)
                    | (go_at_call 75; refine Calls.mono (rn_no _ (by assumption) _) ?_; rintro e w1 ⟨rfl, rfl⟩)
                    | (go_at_call 74; refine Calls.mono (rc_ok _ (by assumption) _) ?_; rintro e w1 ⟨rfl, rfl⟩)
                    | (go_at_call 74; refine Calls.mono (rc_no _ (by assumption) _) ?_; rintro e w1 ⟨rfl, rfl⟩)
                    | (go_at_call 45; refine Calls.mono HR.out ?_; rintro e w1 ⟨b, rfl, hbi, hb⟩)
                    | fail)
    go_ret
    exact BK.no (by rw [HOK.out]; exact fun t => h1 t.1) HB0.out
  by_cases h2 : 0 ≤ vw ∧ vw ≤ 2147483647
  rotate_left
  · go_wp2_with (first
                    | (go_at_call 75; refine Calls.mono (rn_ok _ (by assumption) _) ?_; rintro e w1 ⟨rfl, rfl⟩)
                    | (go_at_call 75; refine Calls.mono (rn_no _ (by assumption) _) ?_; rintro e w1 ⟨rfl, rfl⟩)
                    | (go_at_call 74; refine Calls.mono (rc_ok _ (by assumption) _) ?_; rintro e w1 ⟨rfl, rfl⟩)
                    | (go_at_call 74; refine Calls.mono (rc_no _ (by assumption) _) ?_; rintro e w1 ⟨rfl, rfl⟩)
                    | (go_at_call 45; refine Calls.mono HR.out ?_; rintro e w1 ⟨b, rfl, hbi, hb⟩)
                    | fail)
    go_ret
    exact BK.no (by rw [HOK.out]; exact fun t => h2 t.2.1) HB0.out
  by_cases h3 : 1 ≤ se ∧ se ≤ 2147483647
  rotate_left
  · go_wp2_with (first
                    | (go_at_call 75; refine Calls.mono (rn_ok _ (by assumption) _) ?_; rintro e w1 ⟨rfl, rfl⟩)
                    | (go_at_call 75; refine Calls.mono (rn_no _ (by assumption) _) ?_; rintro e w1 ⟨rfl, rfl⟩)
                    | (go_at_call 74; refine Calls.mono (rc_ok _ (by assumption) _) ?_; rintro e w1 ⟨rfl, rfl⟩)
                    | (go_at_call 74; refine Calls.mono (rc_no _ (by assumption) _) ?_; rintro e w1 ⟨rfl, rfl⟩)
                    | (go_at_call 45; refine Calls.mono HR.out ?_; rintro e w1 ⟨b, rfl, hbi, hb⟩)
                    | fail)
    go_ret
    exact BK.no (by rw [HOK.out]; exact fun t => h3 t.2.2.1) HB0.out
  by_cases h4 : 0 ≤ rq ∧ rq ≤ 2147483647
  rotate_left
  · go_wp2_with (first
                    | (go_at_call 75; refine Calls.mono (rn_ok _ (by assumption) _) ?_; rintro e w1 ⟨rfl, rfl⟩)
                    | (go_at_call 75; refine Calls.mono (rn_no _ (by assumption) _) ?_; rintro e w1 ⟨rfl, rfl⟩)
                    | (go_at_call 74; refine Calls.mono (rc_ok _ (by assumption) _) ?_; rintro e w1 ⟨rfl, rfl⟩)
                    | (go_at_call 74; refine Calls.mono (rc_no _ (by assumption) _) ?_; rintro e w1 ⟨rfl, rfl⟩)
                    | (go_at_call 45; refine Calls.mono HR.out ?_; rintro e w1 ⟨b, rfl, hbi, hb⟩)
                    | fail)
    go_ret
    exact BK.no (by rw [HOK.out]; exact fun t => by rcases t.2.2.2 with t2 | t2 <;> omega) HB0.out
  by_cases k1 : K < 1
  · go_wp2_with (first
                    | (go_at_call 75; refine Calls.mono (rn_ok _ (by assumption) _) ?_; rintro e w1 ⟨rfl, rfl⟩)
                    | (go_at_call 75; refine Calls.mono (rn_no _ (by assumption) _) ?_; rintro e w1 ⟨rfl, rfl⟩)
                    | (go_at_call 74; refine Calls.mono (rc_ok _ (by assumption) _) ?_; rintro e w1 ⟨rfl, rfl⟩)
                    | (go_at_call 74; refine Calls.mono (rc_no _ (by assumption) _) ?_; rintro e w1 ⟨rfl, rfl⟩)
                    | (go_at_call 45; refine Calls.mono HR.out ?_; rintro e w1 ⟨b, rfl, hbi, hb⟩)
                    | fail)
    go_ret
    exact BK.no (by rw [HOK.out]; exact fun t => by rcases t.2.2.2 with t2 | t2 <;> omega) HB0.out
  by_cases k2 : 4 < K
  · go_wp2_with (first
                    | (go_at_call 75; refine Calls.mono (rn_ok _ (by assumption) _) ?_; rintro e w1 ⟨rfl, rfl⟩)
                    | (go_at_call 75; refine Calls.mono (rn_no _ (by assumption) _) ?_; rintro e w1 ⟨rfl, rfl⟩)
                    | (go_at_call 74; refine Calls.mono (rc_ok _ (by assumption) _) ?_; rintro e w1 ⟨rfl, rfl⟩)
                    | (go_at_call 74; refine Calls.mono (rc_no _ (by assumption) _) ?_; rintro e w1 ⟨rfl, rfl⟩)
                    | (go_at_call 45; refine Calls.mono HR.out ?_; rintro e w1 ⟨b, rfl, hbi, hb⟩)
                    | fail)
    go_ret
    exact BK.no (by rw [HOK.out]; exact fun t => by rcases t.2.2.2 with t2 | t2 <;> omega) HB0.out
  by_cases k3 : K = 1
  · subst k3
    by_cases r1 : 1 ≤ rq
    · go_wp2_with (first
                    | (go_at_call 75; refine Calls.mono (rn_ok _ (by assumption) _) ?_; rintro e w1 ⟨rfl, rfl⟩)
                    | (go_at_call 75; refine Calls.mono (rn_no _ (by assumption) _) ?_; rintro e w1 ⟨rfl, rfl⟩)
                    | (go_at_call 74; refine Calls.mono (rc_ok _ (by assumption) _) ?_; rintro e w1 ⟨rfl, rfl⟩)
                    | (go_at_call 74; refine Calls.mono (rc_no _ (by assumption) _) ?_; rintro e w1 ⟨rfl, rfl⟩)
                    | (go_at_call 45; refine Calls.mono HR.out ?_; rintro e w1 ⟨b, rfl, hbi, hb⟩)
                    | fail)
      go_ret
      refine ⟨b, rfl, ?_, HB0.out.trans (hb.mono HB0.out.size)⟩
      rw [hbi, HOK.out]
      exact ⟨fun g => ⟨h1, h2, h3, .inl ⟨rfl, ⟨r1, h4.2⟩, ⟨by omega, by omega⟩, g.2⟩⟩, fun t => by
        have t2 := t.2.2.2
        simp only at t2
        rcases t2 with t2 | t2
        · exact ⟨by have := t2.2.2.1; omega, t2.2.2.2⟩
        · omega⟩
    · go_wp2_with (first
                    | (go_at_call 75; refine Calls.mono (rn_ok _ (by assumption) _) ?_; rintro e w1 ⟨rfl, rfl⟩)
                    | (go_at_call 75; refine Calls.mono (rn_no _ (by assumption) _) ?_; rintro e w1 ⟨rfl, rfl⟩)
                    | (go_at_call 74; refine Calls.mono (rc_ok _ (by assumption) _) ?_; rintro e w1 ⟨rfl, rfl⟩)
                    | (go_at_call 74; refine Calls.mono (rc_no _ (by assumption) _) ?_; rintro e w1 ⟨rfl, rfl⟩)
                    | (go_at_call 45; refine Calls.mono HR.out ?_; rintro e w1 ⟨b, rfl, hbi, hb⟩)
                    | fail)
      go_ret
      exact BK.no (by rw [HOK.out]; exact fun t => by rcases t.2.2.2 with t2 | t2 <;> omega) HB0.out
  · have k3' : (K == 1) = false := by simpa using k3
    by_cases r0 : rq = 0
    · subst r0
      by_cases l0 : ops.length = 0
      · have l0' : ((ops.length : Int) == 0) = true := by simpa using l0
        go_wp2_with (first
                    | (go_at_call 75; refine Calls.mono (rn_ok _ (by assumption) _) ?_; rintro e w1 ⟨rfl, rfl⟩)
                    | (go_at_call 75; refine Calls.mono (rn_no _ (by assumption) _) ?_; rintro e w1 ⟨rfl, rfl⟩)
                    | (go_at_call 74; refine Calls.mono (rc_ok _ (by assumption) _) ?_; rintro e w1 ⟨rfl, rfl⟩)
                    | (go_at_call 74; refine Calls.mono (rc_no _ (by assumption) _) ?_; rintro e w1 ⟨rfl, rfl⟩)
                    | (go_at_call 45; refine Calls.mono HR.out ?_; rintro e w1 ⟨b, rfl, hbi, hb⟩)
                    | fail)
        go_ret
        exact BK.yes (by rw [HOK.out]; exact ⟨h1, h2, h3, .inr (by omega)⟩) HB0.out
      · have l0' : ((ops.length : Int) == 0) = false := by simpa using l0
        go_wp2_with (first
                    | (go_at_call 75; refine Calls.mono (rn_ok _ (by assumption) _) ?_; rintro e w1 ⟨rfl, rfl⟩)
                    | (go_at_call 75; refine Calls.mono (rn_no _ (by assumption) _) ?_; rintro e w1 ⟨rfl, rfl⟩)
                    | (go_at_call 74; refine Calls.mono (rc_ok _ (by assumption) _) ?_; rintro e w1 ⟨rfl, rfl⟩)
                    | (go_at_call 74; refine Calls.mono (rc_no _ (by assumption) _) ?_; rintro e w1 ⟨rfl, rfl⟩)
                    | (go_at_call 45; refine Calls.mono HR.out ?_; rintro e w1 ⟨b, rfl, hbi, hb⟩)
                    | fail)
        go_ret
        exact BK.no (by rw [HOK.out]; exact fun t => by rcases t.2.2.2 with t2 | t2 <;> omega) HB0.out
    · have r0' : (rq == 0) = false := by simpa using r0
      go_wp2_with (first
                    | (go_at_call 75; refine Calls.mono (rn_ok _ (by assumption) _) ?_; rintro e w1 ⟨rfl, rfl⟩)
                    | (go_at_call 75; refine Calls.mono (rn_no _ (by assumption) _) ?_; rintro e w1 ⟨rfl, rfl⟩)
                    | (go_at_call 74; refine Calls.mono (rc_ok _ (by assumption) _) ?_; rintro e w1 ⟨rfl, rfl⟩)
                    | (go_at_call 74; refine Calls.mono (rc_no _ (by assumption) _) ?_; rintro e w1 ⟨rfl, rfl⟩)
                    | (go_at_call 45; refine Calls.mono HR.out ?_; rintro e w1 ⟨b, rfl, hbi, hb⟩)
                    | fail)
      go_ret
      exact BK.no (by rw [HOK.out]; exact fun t => by rcases t.2.2.2 with t2 | t2 <;> omega) HB0.out
theorem ren_any (e : EnN) (w : World) (hA : e.At w) : Calls Tryz.prog 27 #[e.val] w (BK e.Ok w) := ren_core e.st e.vw e.K e.se e.rq e.opsA e.opsC e.ops w hA.ops
end Go.Proofs.YtdjfeomdiljaeaaGreatDoor
