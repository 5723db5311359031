/-
  tree: texts, same, find of the law.
-/
import Derived.Test.YtliafokjdngejaaGreatDoorTSound
import Derived.BigQuiet
import Derived.Deep.QuietTactic
namespace Go.Proofs.YtliafokjdngejaaGreatDoor
open Go.RowKit Go.Maps Go.WideShapes
set_option linter.unusedVariables false
set_option linter.unusedSimpArgs false
attribute [local go_sem ↓] Go.wp_at_zero Go.wp_at_succ

set_option maxHeartbeats 3200000 in
set_option maxRecDepth 100000 in
theorem textsT_any (B1 B2 : Nat) (va vb : Value) (xs : List ByteArray) (w : World) (h1 : w.ownsRow B1 9 1 va xs.length (xs.map Value.string)) (h2 : w.ownsRow B2 9 1 vb xs.length (xs.map Value.string)) (hl : xs.length ≤ 1000) :
    Calls Tryz.prog 46 #[va, vb] w fun e w' => e = .returned (.bool true) ∧ Below w.heap.size w w' := by
  obtain ⟨a, c, rfl⟩ := slice_of h1
  obtain ⟨b, d, rfl⟩ := slice_of h2
  have H1 : Hid _ := h1
  have H2 : Hid _ := h2
  obtain ⟨N, hN⟩ : ∃ N, xs.length = N := ⟨_, rfl⟩
  have HN : Hid (xs.length = N) := hN
  rw [hN] at H1 H2 hl ⊢
  clear h1 h2 hN
  go_enter Tryz.func46, Tryz.ntmps46
  go_wp2_with fail
  go_loopw [5] (fun i wr => ∃ q : Nat, i = .int .i64 q ∧ q ≤ N ∧ Hid (Below w.heap.size w wr)) (fun i _ => N - (intOf i).toNat)
  case atStart => exact ⟨0, rfl, Nat.zero_le _, Below.refl _ _⟩
  case round =>
    obtain ⟨q, rfl, hq, HB⟩ := hrel
    by_cases hlt : q < N
    · have hlt' : (q : Int) < (N : Int) := by omega
      obtain ⟨x, hx⟩ : ∃ x, xs[q]? = some x := ⟨xs[q]'(by rw [HN.out]; exact hlt), List.getElem?_eq_getElem _⟩
      obtain ⟨g1, c1, e1⟩ := form_n H1.out (by omega)
      obtain ⟨g2, c2, e2⟩ := form_n H2.out (by omega)
      obtain ⟨rfl, rfl⟩ : a = some ⟨g1, 0, none⟩ ∧ c = c1 := by simpa using e1
      obtain ⟨rfl, rfl⟩ : b = some ⟨g2, 0, none⟩ ∧ d = c2 := by simpa using e2
      have l1 : g1 < w.heap.size := (World.ownsRow.lt H1.out g1 rfl).2
      have l2 : g2 < w.heap.size := (World.ownsRow.lt H2.out g2 rfl).2
      have k1 : wr.cell? ⟨g1, q, none⟩ = some (.string x) := by rw [HB.out.cell (p := ⟨g1, q, none⟩) l1]; exact cell_n H1.out (by rw [List.getElem?_map, hx]; rfl)
      have k2 : wr.cell? ⟨g2, q, none⟩ = some (.string x) := by rw [HB.out.cell (p := ⟨g2, q, none⟩) l2]; exact cell_n H2.out (by rw [List.getElem?_map, hx]; rfl)
      clear hx e1 e2
      go_upto_region 6 with fail
      go_quiet (fail)
      go_wp2_with fail
      go_roundw
      case rel => exact ⟨q + 1, by go_num, by omega, below_dN HB.out _⟩
      case measure => simp [intOf]; omega
    · obtain rfl : q = N := by omega
      go_wp2_with fail
      go_ret
      exact ⟨rfl, HB.out⟩
set_option maxHeartbeats 3200000 in
set_option maxRecDepth 100000 in
theorem sameT_any (B1 B2 g1 c1 g2 c2 : Nat) (T : List Nd) (w : World) (h1 : w.ownsRow B1 54 7 (.slice (some ⟨g1, 0, none⟩) T.length c1) T.length (T.flatMap Nd.cs)) (h2 : w.ownsRow B2 54 7 (.slice (some ⟨g2, 0, none⟩) T.length c2) T.length (T.flatMap Nd.cs)) (hl : T.length ≤ 1000) :
    Calls Tryz.prog 23 #[.slice (some ⟨g1, 0, none⟩) T.length c1, .slice (some ⟨g2, 0, none⟩) T.length c2] w fun e w' => e = .returned (.bool true) ∧ Below w.heap.size w w' := by
  have l1 : g1 < w.heap.size := (h1.lt g1 rfl).2
  have l2 : g2 < w.heap.size := (h2.lt g2 rfl).2
  have H1 : Hid (∀ (wr : World), Below w.heap.size w wr → ∀ q j x v, T[q]? = some x → x.cs[j]? = some v → wr.cell? ⟨g1, q * 7 + j, none⟩ = some v) := fun wr hb q j x v hx hv => by rw [hb.cell (p := ⟨g1, q * 7 + j, none⟩) l1]; exact nd_cell h1 hx hv
  have H2 : Hid (∀ (wr : World), Below w.heap.size w wr → ∀ q j x v, T[q]? = some x → x.cs[j]? = some v → wr.cell? ⟨g2, q * 7 + j, none⟩ = some v) := fun wr hb q j x v hx hv => by rw [hb.cell (p := ⟨g2, q * 7 + j, none⟩) l2]; exact nd_cell h2 hx hv
  obtain ⟨N, hN⟩ : ∃ N, T.length = N := ⟨_, rfl⟩
  have HN : Hid (T.length = N) := hN
  rw [hN] at hl ⊢
  clear h1 h2 hN
  go_enter Tryz.func23, Tryz.ntmps23
  go_wp2_with fail
  go_loopw [5] (fun i wr => ∃ q : Nat, i = .int .i64 q ∧ q ≤ N ∧ Hid (Below w.heap.size w wr)) (fun i _ => N - (intOf i).toNat)
  case atStart => exact ⟨0, rfl, Nat.zero_le _, Below.refl _ _⟩
  case round =>
    obtain ⟨q, rfl, hq, HB⟩ := hrel
    by_cases hlt : q < N
    · have hlt' : (q : Int) < (N : Int) := by omega
      obtain ⟨x, hx⟩ : ∃ x, T[q]? = some x := ⟨T[q]'(by rw [HN.out]; exact hlt), List.getElem?_eq_getElem _⟩
      have k0 : wr.cell? ⟨g1, q * 7, none⟩ = some (.string x.p) := H1.out wr HB.out q 0 x _ hx rfl
      have k1 := H1.out wr HB.out q 1 x _ hx rfl
      have k2 := H1.out wr HB.out q 2 x _ hx rfl
      have k3 := H1.out wr HB.out q 3 x _ hx rfl
      have k4 := H1.out wr HB.out q 4 x _ hx rfl
      have k5 := H1.out wr HB.out q 5 x _ hx rfl
      have k6 := H1.out wr HB.out q 6 x _ hx rfl
      have m0 : wr.cell? ⟨g2, q * 7, none⟩ = some (.string x.p) := H2.out wr HB.out q 0 x _ hx rfl
      have m1 := H2.out wr HB.out q 1 x _ hx rfl
      have m2 := H2.out wr HB.out q 2 x _ hx rfl
      have m3 := H2.out wr HB.out q 3 x _ hx rfl
      have m4 := H2.out wr HB.out q 4 x _ hx rfl
      have m5 := H2.out wr HB.out q 5 x _ hx rfl
      have m6 := H2.out wr HB.out q 6 x _ hx rfl
      clear hx
      go_upto_region 6 with fail
      go_quiet (fail)
      go_wp2_with fail
      go_roundw
      case rel => exact ⟨q + 1, by go_num, by omega, below_dN HB.out _⟩
      case measure => simp [intOf]; omega
    · obtain rfl : q = N := by omega
      go_wp2_with fail
      go_ret
      exact ⟨rfl, HB.out⟩
theorem beq_ne {a b : ByteArray} (h : a ≠ b) : (a.toList == b.toList) = false := by
  cases hb : (a.toList == b.toList) with
  | false => rfl
  | true =>
    exfalso
    have h1 : a.toList = b.toList := by simpa using hb
    rw [ByteArray.toList_eq, ByteArray.toList_eq] at h1
    exact h (ByteArray.ext (Array.ext' h1))
/-- What find answers. -/
def fndV (T : List Nd) (p : ByteArray) : Value := match fnd T p with | some x => x.V | none => zf
abbrev zN : Nd := ⟨⟨#[]⟩, ⟨#[]⟩, 0, 0, 0, 0, 0⟩
theorem fndV_n (T : List Nd) (p : ByteArray) : fndV T p = ((fnd T p).getD zN).V := by
  unfold fndV
  cases fnd T p <;> rfl
theorem fnd_at {T : List Nd} {p : ByteArray} {q : Nat} {x : Nd} (hx : T[q]? = some x) (hp : x.p = p) (hb : fnd (T.take q) p = none) : fnd T p = some x := by
  have hq := (List.getElem?_eq_some_iff.1 hx).1
  have e : T = T.take q ++ x :: T.drop (q + 1) := by
    conv => lhs; rw [← List.take_append_drop q T, List.drop_eq_getElem_cons hq]
    congr 2
    exact (List.getElem?_eq_some_iff.1 hx).2
  unfold fnd at hb ⊢
  rw [e, List.find?_append, hb, List.find?_cons]
  simp [hp]
theorem fnd_next {T : List Nd} {p : ByteArray} {q : Nat} {x : Nd} (hx : T[q]? = some x) (hp : x.p ≠ p) (hb : fnd (T.take q) p = none) : fnd (T.take (q + 1)) p = none := by
  unfold fnd at hb ⊢
  rw [List.take_add_one, hx, List.find?_append, hb]
  simp [hp]
set_option maxHeartbeats 3200000 in
set_option maxRecDepth 100000 in
theorem findT_any (B g cap : Nat) (T : List Nd) (p : ByteArray) (w : World) (h : w.ownsRow B 54 7 (.slice (some ⟨g, 0, none⟩) T.length cap) T.length (T.flatMap Nd.cs)) (hl : T.length ≤ 1000) :
    Calls Tryz.prog 20 #[.slice (some ⟨g, 0, none⟩) T.length cap, .string p] w fun e w' => e = .returned (.tuple #[fndV T p, .bool (fnd T p).isSome]) ∧ Below w.heap.size w w' := by
  have l1 : g < w.heap.size := (h.lt g rfl).2
  have H1 : Hid (∀ (wr : World), Below w.heap.size w wr → ∀ q j x v, T[q]? = some x → x.cs[j]? = some v → wr.cell? ⟨g, q * 7 + j, none⟩ = some v) := fun wr hb q j x v hx hv => by rw [hb.cell (p := ⟨g, q * 7 + j, none⟩) l1]; exact nd_cell h hx hv
  obtain ⟨N, hN⟩ : ∃ N, T.length = N := ⟨_, rfl⟩
  have HN : Hid (T.length = N) := hN
  rw [hN] at hl ⊢
  clear h hN
  go_enter Tryz.func20, Tryz.ntmps20
  go_wp2_with fail
  go_loopw [6] (fun i wr => ∃ q : Nat, i = .int .i64 q ∧ q ≤ N ∧ Hid (fnd (T.take q) p = none) ∧ Hid (wr.heap[w.heap.size]? = some (.cells #[.string ⟨#[]⟩, .string ⟨#[]⟩, .int .i64 0, .int .i64 0, .int .i64 0, .int .i64 0, .int .i64 0] 54 (0, 0))) ∧ Hid (Below w.heap.size w wr)) (fun i _ => N - (intOf i).toNat)
  case atStart => exact ⟨0, rfl, Nat.zero_le _, by show _ = _; rfl, heap_alloc_new _ _, (Below.refl _ _).alloc (Nat.le_refl _) _⟩
  case round =>
    obtain ⟨q, rfl, hq, HF, HZ, HB⟩ := hrel
    by_cases hlt : q < N
    · have hlt' : (q : Int) < (N : Int) := by omega
      obtain ⟨x, hx⟩ : ∃ x, T[q]? = some x := ⟨T[q]'(by rw [HN.out]; exact hlt), List.getElem?_eq_getElem _⟩
      have k0 : wr.cell? ⟨g, q * 7, none⟩ = some (.string x.p) := H1.out wr HB.out q 0 x _ hx rfl
      by_cases hp : x.p = p
      · have HE : Hid (fnd T p = some x) := fnd_at hx hp HF.out
        have k1 := H1.out wr HB.out q 1 x _ hx rfl
        have k2 := H1.out wr HB.out q 2 x _ hx rfl
        have k3 := H1.out wr HB.out q 3 x _ hx rfl
        have k4 := H1.out wr HB.out q 4 x _ hx rfl
        have k5 := H1.out wr HB.out q 5 x _ hx rfl
        have k6 := H1.out wr HB.out q 6 x _ hx rfl
        have hc : (x.p.toList == p.toList) = true := by rw [hp]; simp
        have hfz := free_7 HZ.out
        obtain ⟨b0, b1, b2, b3, b4, b5, b6⟩ := cells_7 HZ.out
        have hzl : w.heap.size < wr.heap.size := (Array.getElem?_eq_some_iff.1 HZ.out).1
        clear hx hp
        go_wp2_with fail
        exact bodyPost_ret (results_cell_tmp rfl _ _ w.heap.size 54 _ (0, 0) _ (.bool true) rfl rfl (fill_7 HZ.out) Tryz.underlying54 rfl (by kernel_rfl)) rfl ⟨by rw [fndV, HE.out]; rfl, fillB_7 HB.out (Nat.le_refl _)⟩
      · have HE : Hid (fnd (T.take (q + 1)) p = none) := fnd_next hx hp HF.out
        have hc : (x.p.toList == p.toList) = false := beq_ne hp
        clear hx hp
        go_wp2_with fail
        go_roundw
        case rel => exact ⟨q + 1, by go_num, by omega, HE.out, HZ.out, HB.out⟩
        case measure => simp [intOf]; omega
    · obtain rfl : q = N := by omega
      have HE : Hid (fnd T p = none) := by
        have := HF.out
        rw [List.take_of_length_le (by rw [HN.out]; omega)] at this
        exact this
      have hfz := free_7 HZ.out
      obtain ⟨b0, b1, b2, b3, b4, b5, b6⟩ := cells_7 HZ.out
      have hzl : w.heap.size < wr.heap.size := (Array.getElem?_eq_some_iff.1 HZ.out).1
      go_wp2_with fail
      exact bodyPost_ret (results_cell_tmp rfl _ _ w.heap.size 54 _ (0, 0) _ (.bool false) rfl rfl (fill_7 HZ.out) Tryz.underlying54 rfl (by kernel_rfl)) rfl ⟨by rw [fndV, HE.out]; rfl, fillB_7 HB.out (Nat.le_refl _)⟩
end Go.Proofs.YtliafokjdngejaaGreatDoor
