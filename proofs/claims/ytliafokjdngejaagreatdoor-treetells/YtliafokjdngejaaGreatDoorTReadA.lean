import Derived.Test.YtliafokjdngejaaGreatDoorTGone
import Derived.BigQuiet
import Derived.Deep.QuietTactic
namespace Go.Proofs.YtliafokjdngejaaGreatDoor
open Go.RowKit Go.Maps Go.WideShapes
set_option linter.unusedVariables false
set_option linter.unusedSimpArgs false
attribute [local go_sem ↓] Go.wp_at_zero Go.wp_at_succ

theorem ordL_pre : ∀ (s t : List UInt8), t ≠ [] → ordL s (s ++ t) = -1
  | [], [], h => absurd rfl h
  | [], _ :: _, _ => rfl
  | x :: r, t, h => by
    show ordL (x :: r) (x :: (r ++ t)) = -1
    unfold ordL
    rw [if_pos rfl]
    exact ordL_pre r t h
theorem par_pre {p : ByteArray} (hp : (parse p).1 = 0) (hr : p ≠ pRt) : ∃ t, t ≠ [] ∧ p.data.toList = (parB p).data.toList ++ t := by
  obtain ⟨xs, k, x, hx, hl, hk, _⟩ := names_of hp hr
  have hne : xs ≠ [] := fun e => by rw [e] at hl; simp at hl
  have hxs : xs = xs.take k ++ [x] := by
    have := List.take_add_one (l := xs) (i := k)
    rw [hk, ← hl, List.take_length] at this
    exact this
  have ht : p.data.toList = flatN (xs.take k) ++ 47 :: x.data.toList := by
    rw [← parse_back hx, placeB, if_neg hne, data_mk]
    conv => lhs; rw [hxs]
    simp [flatN]
  have hx0 : x.data.toList ≠ [] := fun e => by
    have hall := (parse_len hx).2
    rw [List.all_eq_true] at hall
    have h9 := hall x (List.mem_of_getElem? hk)
    have : x.size = 0 := by have h8 := congrArg List.length e; simpa using h8
    simp [isNm, this] at h9
  rw [par_of (x := x) hx hl]
  by_cases h0 : xs.take k = []
  · refine ⟨x.data.toList, hx0, ?_⟩
    rw [ht, h0, placeB, if_pos rfl, data_mk]
    rfl
  · refine ⟨47 :: x.data.toList, by simp, ?_⟩
    rw [ht, placeB, if_neg h0, data_mk]
theorem par_less {p : ByteArray} (hp : (parse p).1 = 0) (hr : p ≠ pRt) : O (parB p) p = -1 := by
  obtain ⟨t, h0, h1⟩ := par_pre hp hr
  rw [O_list, h1]
  exact ordL_pre _ _ h0
theorem root_less {p : ByteArray} (hp : (parse p).1 = 0) (hr : p ≠ pRt) : O pRt p = -1 := by
  obtain ⟨xs, k, x, hx, hl, hk, _⟩ := names_of hp hr
  have hne : xs ≠ [] := fun e => by rw [e] at hl; simp at hl
  obtain ⟨y, r, rfl⟩ : ∃ y r, xs = y :: r := by cases xs with | nil => exact absurd rfl hne | cons y r => exact ⟨y, r, rfl⟩
  have hy0 : y.data.toList ≠ [] := fun e => by
    have hall := (parse_len hx).2
    rw [List.all_eq_true] at hall
    have h9 := hall y List.mem_cons_self
    have : y.size = 0 := by have h8 := congrArg List.length e; simpa using h8
    simp [isNm, this] at h9
  have ht : p.data.toList = [47] ++ (y.data.toList ++ flatN r) := by
    rw [← parse_back hx, placeB, if_neg hne, data_mk]
    simp [flatN]
  rw [O_list, ht]
  exact ordL_pre [47] _ (by simp [hy0])
theorem Snd.first {T : List Nd} (h : Snd T) : ∃ r, T[0]? = some r ∧ r.p = pRt ∧ r.o = 0 := by
  obtain ⟨r, hr, hp, ho⟩ := h.root
  cases T with
  | nil => cases hr
  | cons x U =>
    refine ⟨x, rfl, ?_⟩
    rcases List.mem_cons.1 hr with rfl | hr
    · exact ⟨hp, ho⟩
    · exfalso
      have h1 := (List.pairwise_cons.1 h.inv.srt).1 r hr
      rw [hp] at h1
      by_cases hx : x.p = pRt
      · rw [hx, O_self] at h1
        cases h1
      · have h2 := root_less (h.inv.nd x List.mem_cons_self).1 hx
        rw [O_anti x.p pRt, h1] at h2
        cases h2
theorem Snd.above {T : List Nd} (h : Snd T) {i : Nat} {x : Nd} (hi : 0 < i) (hx : T[i]? = some x) : x.p ≠ pRt ∧ ∃ k u, k < i ∧ T[k]? = some u ∧ u.p = parB x.p ∧ u.o = 0 := by
  have hil := (List.getElem?_eq_some_iff.1 hx).1
  have hxm := List.mem_of_getElem? hx
  obtain ⟨r, hr0, hrp, _⟩ := h.first
  have hlt : ∀ {j k : Nat} {y z : Nd}, T[j]? = some y → T[k]? = some z → j < k → O y.p z.p = -1 := fun {j k y z} hy hz hjk => by
    obtain ⟨hj, e1⟩ := List.getElem?_eq_some_iff.1 hy
    obtain ⟨hk, e2⟩ := List.getElem?_eq_some_iff.1 hz
    have := List.pairwise_iff_getElem.1 h.inv.srt j k hj hk hjk
    rw [e1, e2] at this
    exact this
  have hxr : x.p ≠ pRt := fun e => by
    have := hlt hr0 hx hi
    rw [hrp, e, O_self] at this
    cases this
  refine ⟨hxr, ?_⟩
  obtain ⟨u, hu, hup, huo⟩ := h.up x hxm hxr
  obtain ⟨k, hk⟩ := List.mem_iff_getElem?.1 hu
  refine ⟨k, u, ?_, hk, hup, huo⟩
  have h1 := par_less (h.inv.nd x hxm).1 hxr
  rcases Nat.lt_trichotomy k i with hki | hki | hki
  · exact hki
  · subst hki
    rw [hx] at hk
    obtain rfl := Option.some.inj hk
    rw [← hup, O_self] at h1
    cases h1
  · have h2 := hlt hx hk hki
    rw [hup] at h2
    rw [O_anti x.p (parB x.p), h2] at h1
    cases h1
theorem Snd.order {T : List Nd} (h : Snd T) {i : Nat} {x y : Nd} (hy : T[i]? = some y) (hx : T[i + 1]? = some x) : O y.p x.p = -1 := by
  obtain ⟨hj, e1⟩ := List.getElem?_eq_some_iff.1 hy
  obtain ⟨hk, e2⟩ := List.getElem?_eq_some_iff.1 hx
  have := List.pairwise_iff_getElem.1 h.inv.srt i (i + 1) hj hk (by omega)
  rw [e1, e2] at this
  exact this
theorem parC_zero {p : ByteArray} (hp : (parse p).1 = 0) (hr : p ≠ pRt) : parC p = 0 := by
  obtain ⟨xs, k, x, hx, hl, _, _⟩ := names_of hp hr
  unfold parC
  rw [hx, if_pos rfl, if_neg (fun e => by rw [show xs = [] from e] at hl; simp at hl)]
theorem numT_any (e0 : Int) (w : World) : Calls Tryz.prog 12 #[.int .i64 e0] w fun e w' => e = .returned (.int .i64 e0) ∧ w' = w := by
  go_enter Tryz.func12, Tryz.ntmps12
  go_wp2
  go_ret
  exact ⟨rfl, rfl⟩
/-- Is one of the first ones there, and not brief? -/
def thereB (T : List Nd) (p : ByteArray) : Bool := T.any (fun y => decide (y.p = p) && decide (y.o = 0))
theorem there_snoc {T : List Nd} {p : ByteArray} {q : Nat} {x : Nd} (hx : T[q]? = some x) : thereB (T.take (q + 1)) p = (thereB (T.take q) p || (decide (x.p = p) && decide (x.o = 0))) := by
  unfold thereB
  rw [List.take_add_one, hx, List.any_append]
  simp
theorem there_of {T : List Nd} {p : ByteArray} {q k : Nat} {u : Nd} (hk : k < q) (hu : T[k]? = some u) (hp : u.p = p) (ho : u.o = 0) : thereB (T.take q) p = true := by
  unfold thereB
  rw [List.any_eq_true]
  refine ⟨u, List.mem_of_getElem? (i := k) (by rw [List.getElem?_take, if_pos hk]; exact hu), by simp [hp, ho]⟩
end Go.Proofs.YtliafokjdngejaaGreatDoor
namespace Go.Proofs.YtliafokjdngejaaGreatDoor
open Go.RowKit Go.Maps Go.WideShapes
set_option linter.unusedVariables false
set_option linter.unusedSimpArgs false
attribute [local go_sem ↓] Go.wp_at_zero Go.wp_at_succ

set_option maxHeartbeats 3200000 in
set_option maxRecDepth 100000 in
theorem textsT_any (B1 B2 : Nat) (va vb : Value) (xs : List ByteArray) (w : World) (h1 : w.ownsRow B1 9 1 va xs.length (xs.map Value.string)) (h2 : w.ownsRow B2 9 1 vb xs.length (xs.map Value.string)) (hl : xs.length ≤ 1000) :
    Calls Tryz.prog 46 #[va, vb] w fun e w' => e = .returned (.bool true) ∧ Below w.heap.size w w' := by
  obtain ⟨a, c, rfl⟩ := slice_of h1
  obtain ⟨b, d, rfl⟩ := slice_of h2
  have H1 : Hid _ := h1
  have H2 : Hid _ := h2
  obtain ⟨N, hN⟩ : ∃ N, xs.length = N := ⟨_, rfl⟩
  have HN : Hid (xs.length = N) := hN
  rw [hN] at H1 H2 hl ⊢
  clear h1 h2 hN
  go_enter Tryz.func46, Tryz.ntmps46
  go_wp2_with fail
  go_loopw [5] (fun i wr => ∃ q : Nat, i = .int .i64 q ∧ q ≤ N ∧ Hid (Below w.heap.size w wr)) (fun i _ => N - (intOf i).toNat)
  case atStart => exact ⟨0, rfl, Nat.zero_le _, Below.refl _ _⟩
  case round =>
    obtain ⟨q, rfl, hq, HB⟩ := hrel
    by_cases hlt : q < N
    · have hlt' : (q : Int) < (N : Int) := by omega
      obtain ⟨x, hx⟩ : ∃ x, xs[q]? = some x := ⟨xs[q]'(by rw [HN.out]; exact hlt), List.getElem?_eq_getElem _⟩
      obtain ⟨g1, c1, e1⟩ := form_n H1.out (by omega)
      obtain ⟨g2, c2, e2⟩ := form_n H2.out (by omega)
      obtain ⟨rfl, rfl⟩ : a = some ⟨g1, 0, none⟩ ∧ c = c1 := by simpa using e1
      obtain ⟨rfl, rfl⟩ : b = some ⟨g2, 0, none⟩ ∧ d = c2 := by simpa using e2
      have l1 : g1 < w.heap.size := (World.ownsRow.lt H1.out g1 rfl).2
      have l2 : g2 < w.heap.size := (World.ownsRow.lt H2.out g2 rfl).2
      have k1 : wr.cell? ⟨g1, q, none⟩ = some (.string x) := by rw [HB.out.cell (p := ⟨g1, q, none⟩) l1]; exact cell_n H1.out (by rw [List.getElem?_map, hx]; rfl)
      have k2 : wr.cell? ⟨g2, q, none⟩ = some (.string x) := by rw [HB.out.cell (p := ⟨g2, q, none⟩) l2]; exact cell_n H2.out (by rw [List.getElem?_map, hx]; rfl)
      clear hx e1 e2
      go_upto_region 6 with fail
      go_quiet (fail)
      go_wp2_with fail
      go_roundw
      case rel => exact ⟨q + 1, by go_num, by omega, below_dN HB.out _⟩
      case measure => simp [intOf]; omega
    · obtain rfl : q = N := by omega
      go_wp2_with fail
      go_ret
      exact ⟨rfl, HB.out⟩
set_option maxHeartbeats 3200000 in
set_option maxRecDepth 100000 in
theorem sameT_any (B1 B2 g1 c1 g2 c2 : Nat) (T : List Nd) (w : World) (h1 : w.ownsRow B1 54 7 (.slice (some ⟨g1, 0, none⟩) T.length c1) T.length (T.flatMap Nd.cs)) (h2 : w.ownsRow B2 54 7 (.slice (some ⟨g2, 0, none⟩) T.length c2) T.length (T.flatMap Nd.cs)) (hl : T.length ≤ 1000) :
    Calls Tryz.prog 23 #[.slice (some ⟨g1, 0, none⟩) T.length c1, .slice (some ⟨g2, 0, none⟩) T.length c2] w fun e w' => e = .returned (.bool true) ∧ Below w.heap.size w w' := by
  have l1 : g1 < w.heap.size := (h1.lt g1 rfl).2
  have l2 : g2 < w.heap.size := (h2.lt g2 rfl).2
  have H1 : Hid (∀ (wr : World), Below w.heap.size w wr → ∀ q j x v, T[q]? = some x → x.cs[j]? = some v → wr.cell? ⟨g1, q * 7 + j, none⟩ = some v) := fun wr hb q j x v hx hv => by rw [hb.cell (p := ⟨g1, q * 7 + j, none⟩) l1]; exact nd_cell h1 hx hv
  have H2 : Hid (∀ (wr : World), Below w.heap.size w wr → ∀ q j x v, T[q]? = some x → x.cs[j]? = some v → wr.cell? ⟨g2, q * 7 + j, none⟩ = some v) := fun wr hb q j x v hx hv => by rw [hb.cell (p := ⟨g2, q * 7 + j, none⟩) l2]; exact nd_cell h2 hx hv
  obtain ⟨N, hN⟩ : ∃ N, T.length = N := ⟨_, rfl⟩
  have HN : Hid (T.length = N) := hN
  rw [hN] at hl ⊢
  clear h1 h2 hN
  go_enter Tryz.func23, Tryz.ntmps23
  go_wp2_with fail
  go_loopw [5] (fun i wr => ∃ q : Nat, i = .int .i64 q ∧ q ≤ N ∧ Hid (Below w.heap.size w wr)) (fun i _ => N - (intOf i).toNat)
  case atStart => exact ⟨0, rfl, Nat.zero_le _, Below.refl _ _⟩
  case round =>
    obtain ⟨q, rfl, hq, HB⟩ := hrel
    by_cases hlt : q < N
    · have hlt' : (q : Int) < (N : Int) := by omega
      obtain ⟨x, hx⟩ : ∃ x, T[q]? = some x := ⟨T[q]'(by rw [HN.out]; exact hlt), List.getElem?_eq_getElem _⟩
      have k0 : wr.cell? ⟨g1, q * 7, none⟩ = some (.string x.p) := H1.out wr HB.out q 0 x _ hx rfl
      have k1 := H1.out wr HB.out q 1 x _ hx rfl
      have k2 := H1.out wr HB.out q 2 x _ hx rfl
      have k3 := H1.out wr HB.out q 3 x _ hx rfl
      have k4 := H1.out wr HB.out q 4 x _ hx rfl
      have k5 := H1.out wr HB.out q 5 x _ hx rfl
      have k6 := H1.out wr HB.out q 6 x _ hx rfl
      have m0 : wr.cell? ⟨g2, q * 7, none⟩ = some (.string x.p) := H2.out wr HB.out q 0 x _ hx rfl
      have m1 := H2.out wr HB.out q 1 x _ hx rfl
      have m2 := H2.out wr HB.out q 2 x _ hx rfl
      have m3 := H2.out wr HB.out q 3 x _ hx rfl
      have m4 := H2.out wr HB.out q 4 x _ hx rfl
      have m5 := H2.out wr HB.out q 5 x _ hx rfl
      have m6 := H2.out wr HB.out q 6 x _ hx rfl
      clear hx
      go_upto_region 6 with fail
      go_quiet (fail)
      go_wp2_with fail
      go_roundw
      case rel => exact ⟨q + 1, by go_num, by omega, below_dN HB.out _⟩
      case measure => simp [intOf]; omega
    · obtain rfl : q = N := by omega
      go_wp2_with fail
      go_ret
      exact ⟨rfl, HB.out⟩
theorem beq_ne {a b : ByteArray} (h : a ≠ b) : (a.toList == b.toList) = false := by
  cases hb : (a.toList == b.toList) with
  | false => rfl
  | true =>
    exfalso
    have h1 : a.toList = b.toList := by simpa using hb
    rw [ByteArray.toList_eq, ByteArray.toList_eq] at h1
    exact h (ByteArray.ext (Array.ext' h1))
/-- What find answers. -/
def fndV (T : List Nd) (p : ByteArray) : Value := match fnd T p with | some x => x.V | none => zf
abbrev zN : Nd := ⟨⟨#[]⟩, ⟨#[]⟩, 0, 0, 0, 0, 0⟩
theorem fndV_n (T : List Nd) (p : ByteArray) : fndV T p = ((fnd T p).getD zN).V := by
  unfold fndV
  cases fnd T p <;> rfl
theorem fnd_at {T : List Nd} {p : ByteArray} {q : Nat} {x : Nd} (hx : T[q]? = some x) (hp : x.p = p) (hb : fnd (T.take q) p = none) : fnd T p = some x := by
  have hq := (List.getElem?_eq_some_iff.1 hx).1
  have e : T = T.take q ++ x :: T.drop (q + 1) := by
    conv => lhs; rw [← List.take_append_drop q T, List.drop_eq_getElem_cons hq]
    congr 2
    exact (List.getElem?_eq_some_iff.1 hx).2
  unfold fnd at hb ⊢
  rw [e, List.find?_append, hb, List.find?_cons]
  simp [hp]
theorem fnd_next {T : List Nd} {p : ByteArray} {q : Nat} {x : Nd} (hx : T[q]? = some x) (hp : x.p ≠ p) (hb : fnd (T.take q) p = none) : fnd (T.take (q + 1)) p = none := by
  unfold fnd at hb ⊢
  rw [List.take_add_one, hx, List.find?_append, hb]
  simp [hp]
set_option maxHeartbeats 3200000 in
set_option maxRecDepth 100000 in
theorem findT_any (B g cap : Nat) (T : List Nd) (p : ByteArray) (w : World) (h : w.ownsRow B 54 7 (.slice (some ⟨g, 0, none⟩) T.length cap) T.length (T.flatMap Nd.cs)) (hl : T.length ≤ 1000) :
    Calls Tryz.prog 20 #[.slice (some ⟨g, 0, none⟩) T.length cap, .string p] w fun e w' => e = .returned (.tuple #[fndV T p, .bool (fnd T p).isSome]) ∧ Below w.heap.size w w' := by
  have l1 : g < w.heap.size := (h.lt g rfl).2
  have H1 : Hid (∀ (wr : World), Below w.heap.size w wr → ∀ q j x v, T[q]? = some x → x.cs[j]? = some v → wr.cell? ⟨g, q * 7 + j, none⟩ = some v) := fun wr hb q j x v hx hv => by rw [hb.cell (p := ⟨g, q * 7 + j, none⟩) l1]; exact nd_cell h hx hv
  obtain ⟨N, hN⟩ : ∃ N, T.length = N := ⟨_, rfl⟩
  have HN : Hid (T.length = N) := hN
  rw [hN] at hl ⊢
  clear h hN
  go_enter Tryz.func20, Tryz.ntmps20
  go_wp2_with fail
  go_loopw [6] (fun i wr => ∃ q : Nat, i = .int .i64 q ∧ q ≤ N ∧ Hid (fnd (T.take q) p = none) ∧ Hid (wr.heap[w.heap.size]? = some (.cells #[.string ⟨#[]⟩, .string ⟨#[]⟩, .int .i64 0, .int .i64 0, .int .i64 0, .int .i64 0, .int .i64 0] 54 (0, 0))) ∧ Hid (Below w.heap.size w wr)) (fun i _ => N - (intOf i).toNat)
  case atStart => exact ⟨0, rfl, Nat.zero_le _, by show _ = _; rfl, heap_alloc_new _ _, (Below.refl _ _).alloc (Nat.le_refl _) _⟩
  case round =>
    obtain ⟨q, rfl, hq, HF, HZ, HB⟩ := hrel
    by_cases hlt : q < N
    · have hlt' : (q : Int) < (N : Int) := by omega
      obtain ⟨x, hx⟩ : ∃ x, T[q]? = some x := ⟨T[q]'(by rw [HN.out]; exact hlt), List.getElem?_eq_getElem _⟩
      have k0 : wr.cell? ⟨g, q * 7, none⟩ = some (.string x.p) := H1.out wr HB.out q 0 x _ hx rfl
      by_cases hp : x.p = p
      · have HE : Hid (fnd T p = some x) := fnd_at hx hp HF.out
        have k1 := H1.out wr HB.out q 1 x _ hx rfl
        have k2 := H1.out wr HB.out q 2 x _ hx rfl
        have k3 := H1.out wr HB.out q 3 x _ hx rfl
        have k4 := H1.out wr HB.out q 4 x _ hx rfl
        have k5 := H1.out wr HB.out q 5 x _ hx rfl
        have k6 := H1.out wr HB.out q 6 x _ hx rfl
        have hc : (x.p.toList == p.toList) = true := by rw [hp]; simp
        have hfz := free_7 HZ.out
        obtain ⟨b0, b1, b2, b3, b4, b5, b6⟩ := cells_7 HZ.out
        have hzl : w.heap.size < wr.heap.size := (Array.getElem?_eq_some_iff.1 HZ.out).1
        clear hx hp
        go_wp2_with fail
        exact bodyPost_ret (results_cell_tmp rfl _ _ w.heap.size 54 _ (0, 0) _ (.bool true) rfl rfl (fill_7 HZ.out) Tryz.underlying54 rfl (by kernel_rfl)) rfl ⟨by rw [fndV, HE.out]; rfl, fillB_7 HB.out (Nat.le_refl _)⟩
      · have HE : Hid (fnd (T.take (q + 1)) p = none) := fnd_next hx hp HF.out
        have hc : (x.p.toList == p.toList) = false := beq_ne hp
        clear hx hp
        go_wp2_with fail
        go_roundw
        case rel => exact ⟨q + 1, by go_num, by omega, HE.out, HZ.out, HB.out⟩
        case measure => simp [intOf]; omega
    · obtain rfl : q = N := by omega
      have HE : Hid (fnd T p = none) := by
        have := HF.out
        rw [List.take_of_length_le (by rw [HN.out]; omega)] at this
        exact this
      have hfz := free_7 HZ.out
      obtain ⟨b0, b1, b2, b3, b4, b5, b6⟩ := cells_7 HZ.out
      have hzl : w.heap.size < wr.heap.size := (Array.getElem?_eq_some_iff.1 HZ.out).1
      go_wp2_with fail
      exact bodyPost_ret (results_cell_tmp rfl _ _ w.heap.size 54 _ (0, 0) _ (.bool false) rfl rfl (fill_7 HZ.out) Tryz.underlying54 rfl (by kernel_rfl)) rfl ⟨by rw [fndV, HE.out]; rfl, fillB_7 HB.out (Nat.le_refl _)⟩
end Go.Proofs.YtliafokjdngejaaGreatDoor
