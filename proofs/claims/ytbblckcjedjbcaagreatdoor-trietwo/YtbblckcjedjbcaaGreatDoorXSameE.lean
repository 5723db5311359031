/-
  heraldlaw9: sameSeats, sameWatches, sameTags of equal lists.
-/
import Derived.Test.YtbblckcjedjbcaaGreatDoorXAtD
import Derived.Test.YtbblckcjedjbcaaGreatDoorXBegin
namespace Go.Proofs.YtbblckcjedjbcaaGreatDoor
open Go.RowKit Go.Maps
set_option linter.unusedVariables false
set_option linter.unusedSimpArgs false

theorem scO_at (L : List On) (j t : Nat) (o : On) (v : Value) (h : L[j]? = some o) (hv : o.sc[t]? = some v) : (scO L)[j * 3 + t]? = some v := by
  induction L generalizing j with
  | nil => simp at h
  | cons a r ih =>
    have e : scO (a :: r) = a.sc ++ scO r := rfl
    have ht : t < 3 := (List.getElem?_eq_some_iff.1 hv).1
    rw [e]
    cases j with
    | zero =>
      have : a = o := by simpa using h
      subst this
      rw [Nat.zero_mul, Nat.zero_add, List.getElem?_append_left (by simpa using ht)]
      exact hv
    | succ j =>
      have h1 := ih j (by simpa using h)
      rw [List.getElem?_append_right (by simp; omega)]
      have e2 : (j + 1) * 3 + t - a.sc.length = j * 3 + t := by simp; omega
      rw [e2]
      exact h1
theorem row_addr {w : World} {B e s n : Nat} {a : Option Addr} {c : Nat} {xs : List Value} (h : w.ownsRow B e s (.slice a n c) n xs) (hn : n ≠ 0) : ∃ g, a = some ⟨g, 0, none⟩ := by
  rcases h.2 with ⟨h0, h1⟩ | ⟨g, cap, cur, hv, _⟩
  · exact absurd h1 hn
  · simp only [Value.slice.injEq] at hv
    exact ⟨g, hv.1⟩
set_option maxHeartbeats 16000000 in
set_option maxRecDepth 100000 in
theorem sameSeatsE (v u : Value) (L : List On) (w : World) (hv : w.ownsRow 0 36 3 v L.length (scO L)) (hu : w.ownsRow 0 36 3 u L.length (scO L)) (hl : L.length ≤ 100000) :
    Calls Tryz.prog 22 #[v, u] w fun e w' => e = .returned (.bool true) ∧ Below w.heap.size w w' := by
  obtain ⟨a, c, rfl⟩ := owns_shape hv
  obtain ⟨b, d, rfl⟩ := owns_shape hu
  have HV : Hid _ := hv
  have HU : Hid _ := hu
  obtain ⟨m, hm⟩ : ∃ m, L.length = m := ⟨_, rfl⟩
  have HM : Hid (L.length = m) := hm
  rw [hm] at hl HV HU ⊢
  clear hv hu hm
  go_enter Tryz.func22, Tryz.ntmps22
  go_wp2_with fail
  go_loopw [5] (fun vi wr => ∃ j : Nat, vi = .int .i64 j ∧ j ≤ m ∧ Hid (Below w.heap.size w wr)) (fun vi _ => m - (intOf vi).toNat)
  case atStart => exact ⟨0, rfl, Nat.zero_le _, Below.refl _ _⟩
  case round =>
    obtain ⟨j, rfl, hj, HB⟩ := hrel
    by_cases hlt : j < m
    · have hlt' : (j : Int) < (m : Int) := by omega
      obtain ⟨t, ht⟩ : ∃ t, L[j]? = some t := ⟨L[j]'(by rw [HM.out]; exact hlt), List.getElem?_eq_getElem _⟩
      have hV := owns_below HV.out HB.out
      have hU := owns_below HU.out HB.out
      obtain ⟨g, rfl⟩ := row_addr hV (by omega)
      obtain ⟨k, rfl⟩ := row_addr hU (by omega)
      obtain ⟨s, i, p, kk, f⟩ := t
      have x0 : wr.cell? ⟨g, j * 3, none⟩ = some (.string p) := cell_n hV (scO_at L j 0 _ _ ht rfl)
      have x1 : wr.cell? ⟨g, j * 3 + 1, none⟩ = some (.int .i64 s) := cell_n hV (scO_at L j 1 _ _ ht rfl)
      have x2 : wr.cell? ⟨g, j * 3 + 2, none⟩ = some (.int .i64 i) := cell_n hV (scO_at L j 2 _ _ ht rfl)
      have y0 : wr.cell? ⟨k, j * 3, none⟩ = some (.string p) := cell_n hU (scO_at L j 0 _ _ ht rfl)
      have y1 : wr.cell? ⟨k, j * 3 + 1, none⟩ = some (.int .i64 s) := cell_n hU (scO_at L j 1 _ _ ht rfl)
      have y2 : wr.cell? ⟨k, j * 3 + 2, none⟩ = some (.int .i64 i) := cell_n hU (scO_at L j 2 _ _ ht rfl)
      clear ht hV hU
      go_wp2_with fail
      go_quiet (fail)
      go_wp2_with fail
      go_roundw
      case rel => exact ⟨j + 1, by go_num, by omega, below_drewN HB.out _⟩
      case measure => simp [intOf]; omega
    · have hge : ¬ ((j : Int) < (m : Int)) := by omega
      go_wp2_with fail
      go_ret
      exact ⟨rfl, HB.out⟩
set_option maxHeartbeats 16000000 in
set_option maxRecDepth 100000 in
theorem sameWatchesE (v u : Value) (L : List Wa) (w : World) (hv : w.ownsRow 0 40 4 v L.length (waCs L)) (hu : w.ownsRow 0 40 4 u L.length (waCs L)) (hl : L.length ≤ 100000) :
    Calls Tryz.prog 20 #[v, u] w fun e w' => e = .returned (.bool true) ∧ Below w.heap.size w w' := by
  obtain ⟨a, c, rfl⟩ := owns_shape hv
  obtain ⟨b, d, rfl⟩ := owns_shape hu
  have HV : Hid _ := hv
  have HU : Hid _ := hu
  obtain ⟨m, hm⟩ : ∃ m, L.length = m := ⟨_, rfl⟩
  have HM : Hid (L.length = m) := hm
  rw [hm] at hl HV HU ⊢
  clear hv hu hm
  go_enter Tryz.func20, Tryz.ntmps20
  go_wp2_with fail
  go_loopw [5] (fun vi wr => ∃ j : Nat, vi = .int .i64 j ∧ j ≤ m ∧ Hid (Below w.heap.size w wr)) (fun vi _ => m - (intOf vi).toNat)
  case atStart => exact ⟨0, rfl, Nat.zero_le _, Below.refl _ _⟩
  case round =>
    obtain ⟨j, rfl, hj, HB⟩ := hrel
    by_cases hlt : j < m
    · have hlt' : (j : Int) < (m : Int) := by omega
      obtain ⟨t, ht⟩ : ∃ t, L[j]? = some t := ⟨L[j]'(by rw [HM.out]; exact hlt), List.getElem?_eq_getElem _⟩
      have hV := owns_below HV.out HB.out
      have hU := owns_below HU.out HB.out
      obtain ⟨g, rfl⟩ := row_addr hV (by omega)
      obtain ⟨k, rfl⟩ := row_addr hU (by omega)
      obtain ⟨i, p, kk, f⟩ := t
      have x0 : wr.cell? ⟨g, j * 4, none⟩ = some (.int .i64 i) := cell_n hV (waCs_at L j 0 _ _ ht rfl)
      have x1 : wr.cell? ⟨g, j * 4 + 1, none⟩ = some (.string p) := cell_n hV (waCs_at L j 1 _ _ ht rfl)
      have x2 : wr.cell? ⟨g, j * 4 + 2, none⟩ = some (.int .i64 kk) := cell_n hV (waCs_at L j 2 _ _ ht rfl)
      have x3 : wr.cell? ⟨g, j * 4 + 3, none⟩ = some (.int .i64 f) := cell_n hV (waCs_at L j 3 _ _ ht rfl)
      have y0 : wr.cell? ⟨k, j * 4, none⟩ = some (.int .i64 i) := cell_n hU (waCs_at L j 0 _ _ ht rfl)
      have y1 : wr.cell? ⟨k, j * 4 + 1, none⟩ = some (.string p) := cell_n hU (waCs_at L j 1 _ _ ht rfl)
      have y2 : wr.cell? ⟨k, j * 4 + 2, none⟩ = some (.int .i64 kk) := cell_n hU (waCs_at L j 2 _ _ ht rfl)
      have y3 : wr.cell? ⟨k, j * 4 + 3, none⟩ = some (.int .i64 f) := cell_n hU (waCs_at L j 3 _ _ ht rfl)
      clear ht hV hU
      go_wp2_with fail
      go_quiet (fail)
      go_wp2_with fail
      go_roundw
      case rel => exact ⟨j + 1, by go_num, by omega, below_drewN HB.out _⟩
      case measure => simp [intOf]; omega
    · have hge : ¬ ((j : Int) < (m : Int)) := by omega
      go_wp2_with fail
      go_ret
      exact ⟨rfl, HB.out⟩
end Go.Proofs.YtbblckcjedjbcaaGreatDoor
