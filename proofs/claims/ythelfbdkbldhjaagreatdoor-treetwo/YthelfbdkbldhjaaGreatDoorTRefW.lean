/-
  tree: texts, same, find of the law.
-/
import Derived.Test.YthelfbdkbldhjaaGreatDoorTSound
import Derived.BigQuiet
import Derived.Deep.QuietTactic
import Derived.Test.YthelfbdkbldhjaaGreatDoorTRefB
import Derived.Test.YthelfbdkbldhjaaGreatDoorTRefS
import Derived.Test.YthelfbdkbldhjaaGreatDoorTRefL
namespace Go.Proofs.YthelfbdkbldhjaaGreatDoor
open Go.RowKit Go.Maps Go.WideShapes
set_option linter.unusedVariables false
set_option linter.unusedSimpArgs false
attribute [local go_sem ↓] Go.wp_at_zero Go.wp_at_succ

set_option maxHeartbeats 3200000 in
set_option maxRecDepth 100000 in
theorem textsT_any (B1 B2 : Nat) (va vb : Value) (xs : List ByteArray) (w : World) (h1 : w.ownsRow B1 9 1 va xs.length (xs.map Value.string)) (h2 : w.ownsRow B2 9 1 vb xs.length (xs.map Value.string)) (hl : xs.length ≤ 1000) :
    Calls Tryz.prog 38 #[va, vb] w fun e w' => e = .returned (.bool true) ∧ Below w.heap.size w w' := by
  obtain ⟨a, c, rfl⟩ := slice_of h1
  obtain ⟨b, d, rfl⟩ := slice_of h2
  have H1 : Hid _ := h1
  have H2 : Hid _ := h2
  obtain ⟨N, hN⟩ : ∃ N, xs.length = N := ⟨_, rfl⟩
  have HN : Hid (xs.length = N) := hN
  rw [hN] at H1 H2 hl ⊢
  clear h1 h2 hN
  go_enter Tryz.func38, Tryz.ntmps38
  go_wp2_with fail
  go_loopw [5] (fun i wr => ∃ q : Nat, i = .int .i64 q ∧ q ≤ N ∧ Hid (Below w.heap.size w wr)) (fun i _ => N - (intOf i).toNat)
  case atStart => exact ⟨0, rfl, Nat.zero_le _, Below.refl _ _⟩
  case round =>
    obtain ⟨q, rfl, hq, HB⟩ := hrel
    by_cases hlt : q < N
    · have hlt' : (q : Int) < (N : Int) := by omega
      obtain ⟨x, hx⟩ : ∃ x, xs[q]? = some x := ⟨xs[q]'(by rw [HN.out]; exact hlt), List.getElem?_eq_getElem _⟩
      obtain ⟨g1, c1, e1⟩ := form_n H1.out (by omega)
      obtain ⟨g2, c2, e2⟩ := form_n H2.out (by omega)
      obtain ⟨rfl, rfl⟩ : a = some ⟨g1, 0, none⟩ ∧ c = c1 := by simpa using e1
      obtain ⟨rfl, rfl⟩ : b = some ⟨g2, 0, none⟩ ∧ d = c2 := by simpa using e2
      have l1 : g1 < w.heap.size := (World.ownsRow.lt H1.out g1 rfl).2
      have l2 : g2 < w.heap.size := (World.ownsRow.lt H2.out g2 rfl).2
      have k1 : wr.cell? ⟨g1, q, none⟩ = some (.string x) := by rw [HB.out.cell (p := ⟨g1, q, none⟩) l1]; exact cell_n H1.out (by rw [List.getElem?_map, hx]; rfl)
      have k2 : wr.cell? ⟨g2, q, none⟩ = some (.string x) := by rw [HB.out.cell (p := ⟨g2, q, none⟩) l2]; exact cell_n H2.out (by rw [List.getElem?_map, hx]; rfl)
      clear hx e1 e2
      go_upto_region 6 with fail
      go_quiet (fail)
      go_wp2_with fail
      go_roundw
      case rel => exact ⟨q + 1, by go_num, by omega, below_dN HB.out _⟩
      case measure => simp [intOf]; omega
    · obtain rfl : q = N := by omega
      go_wp2_with fail
      go_ret
      exact ⟨rfl, HB.out⟩
theorem beq_ne {a b : ByteArray} (h : a ≠ b) : (a.toList == b.toList) = false := by
  cases hb : (a.toList == b.toList) with
  | false => rfl
  | true =>
    exfalso
    have h1 : a.toList = b.toList := by simpa using hb
    rw [ByteArray.toList_eq, ByteArray.toList_eq] at h1
    exact h (ByteArray.ext (Array.ext' h1))
abbrev zN : Nd := ⟨⟨#[]⟩, ⟨#[]⟩, 0, 0, 0, 0, 0⟩
end Go.Proofs.YthelfbdkbldhjaaGreatDoor
namespace Go.Proofs.YthelfbdkbldhjaaGreatDoor
open Go.RowKit Go.Maps Go.WideShapes
set_option linter.unusedVariables false
set_option linter.unusedSimpArgs false

theorem upd_no {T : List Nd} {y : Nd} (h : ∀ x ∈ T, x.p ≠ y.p) : upd T y = T := by
  unfold upd
  conv => rhs; rw [← List.map_id T]
  apply List.map_congr_left
  intro x hx
  rw [if_neg (h x hx)]
  rfl
theorem erase_filter : ∀ {T : List Nd} {q : Nat} {u : Nd}, Srt T → T[q]? = some u → T.eraseIdx q = T.filter (fun z => decide (z.p ≠ u.p))
  | [], q, u, _, h => by simp at h
  | x :: r, 0, u, hs, h => by
    obtain rfl : x = u := by simpa using h
    obtain ⟨h1, h2⟩ := List.pairwise_cons.1 hs
    rw [List.eraseIdx_cons_zero, List.filter_cons, if_neg (by simp)]
    refine (List.filter_eq_self.2 (fun z hz => ?_)).symm
    have : z.p ≠ x.p := fun e => by
      have := h1 z hz
      rw [e, O_self] at this
      cases this
    simpa using this
  | x :: r, q + 1, u, hs, h => by
    obtain ⟨h1, h2⟩ := List.pairwise_cons.1 hs
    have hr : r[q]? = some u := by simpa using h
    have hne : x.p ≠ u.p := fun e => by
      have := h1 u (List.mem_of_getElem? hr)
      rw [e, O_self] at this
      cases this
    rw [List.eraseIdx_cons_succ, List.filter_cons, if_pos (by simpa using hne), erase_filter h2 hr]
theorem ins_erase : ∀ {T : List Nd} {q : Nat} {u y : Nd}, Srt T → T[q]? = some u → y.p = u.p → ins y (T.eraseIdx q) = upd T y
  | [], q, u, y, _, h, _ => by simp at h
  | x :: r, 0, u, y, hs, h, hy => by
    obtain rfl : x = u := by simpa using h
    obtain ⟨h1, h2⟩ := List.pairwise_cons.1 hs
    have hno : ∀ z ∈ r, z.p ≠ y.p := fun z hz e => by
      have := h1 z hz
      rw [e, hy, O_self] at this
      cases this
    have e1 : upd (x :: r) y = y :: upd r y := by simp [upd, hy.symm]
    rw [List.eraseIdx_cons_zero, e1, upd_no hno]
    cases r with
    | nil => rfl
    | cons z r' =>
      unfold ins
      rw [if_pos (by rw [hy]; exact h1 z List.mem_cons_self)]
  | x :: r, q + 1, u, y, hs, h, hy => by
    obtain ⟨h1, h2⟩ := List.pairwise_cons.1 hs
    have hr : r[q]? = some u := by simpa using h
    have hxu := h1 u (List.mem_of_getElem? hr)
    have hne : x.p ≠ y.p := fun e => by
      rw [e, hy, O_self] at hxu
      cases hxu
    have e1 : upd (x :: r) y = x :: upd r y := by simp [upd, hne]
    rw [List.eraseIdx_cons_succ, e1]
    unfold ins
    rw [if_neg, ins_erase h2 hr hy]
    rw [hy, O_anti x.p u.p, hxu]
    decide
theorem kidsR_eq {T : List Nd} (h : Inv T) {at' : ByteArray} (hp : (parse at').1 = 0) : kidsM T at' = kidsR T at' := by
  unfold kidsM kidsR
  congr 1
  apply List.filter_congr
  intro y hy
  have hyp := (h.nd y hy).1
  unfold kidP wF kidB
  rw [show (⟨(Nd.by y).toArray⟩ : ByteArray) = y.p from rfl]
  by_cases hr : y.p = pRt
  · have e1 : parC y.p = 47 := by rw [hr]; kernel_rfl
    have hc : childB at' y.p = false := by rw [hr]; rfl
    rw [e1]
    unfold covers cov
    rw [hc]
    simp
    intro _ _ _ h9
    unfold eqB at h9
    have h8 : y.p.toList = at'.toList := by simpa using h9
    rw [ByteArray.toList_eq, ByteArray.toList_eq] at h8
    exact ByteArray.ext (Array.ext' h8)
  · obtain ⟨xs, k, x, hxs, hl, _, _⟩ := names_of hyp hr
    have e1 := parC_zero hyp hr
    have e2 := par_of (x := x) hxs hl
    have hne : xs.isEmpty = false := by cases xs with | nil => simp at hl | cons _ _ => rfl
    have hless := par_less hyp hr
    by_cases hpa : parB y.p = at'
    · have h1 := kid_of_par hyp hp hr hpa
      rw [h1]
      have hne2 : y.p ≠ at' := fun e => by
        rw [hpa, ← e, O_self] at hless
        cases hless
      simp [hne2, e1, hpa]
    · have hc : childB at' y.p = false := by
        unfold childB
        rw [hxs]
        simp only [hne, hl, Nat.add_sub_cancel]
        rw [← e2]
        simp
        intro e
        rw [ByteArray.toList_eq, ByteArray.toList_eq] at e
        exact hpa (ByteArray.ext (Array.ext' e))
      unfold covers cov
      rw [hc]
      by_cases hya : y.p = at'
      · simp [hya, hpa]
        intro _
        rw [hya] at hpa
        exact hpa
      · have : eqB y.p at' = false := beq_ne hya
        rw [this]
        simp [hpa]

end Go.Proofs.YthelfbdkbldhjaaGreatDoor
namespace Go.Proofs.YthelfbdkbldhjaaGreatDoor
open Go.RowKit Go.Maps Go.WideShapes
set_option linter.unusedVariables false
set_option linter.unusedSimpArgs false

theorem refOne_any (a : Option Addr) (c : Nat) (T : List Nd) (s st : Int) (o : OpT) (w : World) (h : NdsAt w a T) (hi : Inv T) :
    Calls Tryz.prog 34 #[.slice a T.length c, .int .i64 s, .int .i64 st, opV o.k o.p o.d o.v o.f] w (OneE w (oneM T s st o)) := by
  obtain ⟨k, p, d, v, f⟩ := o
  have hT := hi.len
  show Calls _ _ #[.slice a T.length c, .int .i64 s, .int .i64 st, opV k p d v f] w _
  unfold oneM
  by_cases hm : malC s k p d f = 0
  · rw [if_neg (by simpa using hm)]
    obtain ⟨hk1, hk7, hp0, _, _⟩ := mal_ok hm
    have hk1 : 1 ≤ k := hk1
    have hk7 : k ≤ 7 := hk7
    by_cases h1 : k = 1
    · subst h1
      rw [if_pos rfl]
      exact ro_make a c T s st p d v f w h hT hm hi
    rw [if_neg h1]
    cases hf : fnd T p with
    | none =>
      show Calls _ _ _ _ (OneE w (40, T, zr, []))
      exact ro_40 a c T s st k p d v f w h hT hm (by omega) (fndI_none (fnd_none hf))
    | some u =>
      obtain ⟨q, hu, hq, _⟩ := fndI_fnd hf
      have hum := (fnd_some hf).1
      have hun := hi.nd u hum
      have hkid := kidsR_eq hi hun.1
      show Calls _ _ _ _ (OneE w (if misC k v u.v (kidsM T u.p) ≠ 0 then (misC k v u.v (kidsM T u.p), T, zr, []) else (0, restM T st ⟨k, p, d, v, f⟩ u)))
      rw [hkid]
      have hvc : ((v != -1) = false) ∨ ((v != -1) = true ∧ (v != u.v) = false) ∨ ((v != -1) = true ∧ (v != u.v) = true) := by
        by_cases h1 : v = -1
        · exact .inl (by simpa using h1)
        · by_cases h2 : v = u.v
          · exact .inr (.inl ⟨by simpa using h1, by simpa using h2⟩)
          · exact .inr (.inr ⟨by simpa using h1, by simpa using h2⟩)
      have hv0 : ((v != -1) = false ∨ (v != u.v) = false) → ¬ (v ≠ -1 ∧ v ≠ u.v) := fun h9 ⟨g1, g2⟩ => by
        rcases h9 with h9 | h9
        · exact g1 (by simpa using h9)
        · exact g2 (by simpa using h9)
      rcases (show k = 2 ∨ k = 3 ∨ k = 4 ∨ k = 5 ∨ k = 6 ∨ k = 7 by omega) with rfl | rfl | rfl | rfl | rfl | rfl
      · -- set
        rcases hvc with hv | ⟨hv, hv2⟩ | ⟨hv, hv2⟩
        · by_cases hx : 2147483647 ≤ u.v
          · have e : misC 2 v u.v (kidsR T u.p) = 46 := by unfold misC; rw [if_neg (fun g => hv0 (.inl hv) g.2), if_neg (by omega), if_pos ⟨rfl, hx⟩]
            rw [e]
            exact ro_46m a c T s st p d v f u q w h hT hm hq hu hv hx
          · have e : misC 2 v u.v (kidsR T u.p) = 0 := by unfold misC; rw [if_neg (fun g => hv0 (.inl hv) g.2), if_neg (by omega), if_neg (fun g => hx g.2)]
            rw [e, if_neg (by simp)]
            have h9 := ro_setm a c T s st p d v f u q w h hT hm hq hu hv (by omega) hun.2.2.1 hi.sml (by have := size_of_parse hun.1; omega)
            rw [ins_erase (y := ⟨u.p, d, u.v + 1, u.m, st, u.o, u.k⟩) hi.srt hq rfl] at h9
            exact h9
        · by_cases hx : 2147483647 ≤ u.v
          · have e : misC 2 v u.v (kidsR T u.p) = 46 := by unfold misC; rw [if_neg (fun g => hv0 (.inr hv2) g.2), if_neg (by omega), if_pos ⟨rfl, hx⟩]
            rw [e]
            exact ro_46e a c T s st p d v f u q w h hT hm hq hu hv hv2 hx
          · have e : misC 2 v u.v (kidsR T u.p) = 0 := by unfold misC; rw [if_neg (fun g => hv0 (.inr hv2) g.2), if_neg (by omega), if_neg (fun g => hx g.2)]
            rw [e, if_neg (by simp)]
            have h9 := ro_sete a c T s st p d v f u q w h hT hm hq hu hv hv2 (by omega) hun.2.2.1 hi.sml (by have := size_of_parse hun.1; omega)
            rw [ins_erase (y := ⟨u.p, d, u.v + 1, u.m, st, u.o, u.k⟩) hi.srt hq rfl] at h9
            exact h9
        · have e : misC 2 v u.v (kidsR T u.p) = 42 := by unfold misC; rw [if_pos ⟨.inl rfl, by simpa using hv, by simpa using hv2⟩]
          rw [e]
          exact ro_42 a c T s st 2 p d v f u q w h hT hm (by omega) hq hu hv hv2
      · -- drop
        rcases hvc with hv | ⟨hv, hv2⟩ | ⟨hv, hv2⟩
        · by_cases hx : kidsR T u.p = []
          · have e : misC 3 v u.v (kidsR T u.p) = 0 := by unfold misC; rw [if_neg (fun g => hv0 (.inl hv) g.2), if_neg (fun g => g.2 hx), if_neg (by omega)]
            rw [e, if_neg (by simp)]
            have h9 := ro_dropm a c T s st p d v f u q w h hT hm hq hu hv hx
            rw [erase_filter hi.srt hq] at h9
            exact h9
          · have e : misC 3 v u.v (kidsR T u.p) = 43 := by unfold misC; rw [if_neg (fun g => hv0 (.inl hv) g.2), if_pos ⟨rfl, hx⟩]
            rw [e]
            exact ro_43m a c T s st p d v f u q w h hT hm hq hu hv hx
        · by_cases hx : kidsR T u.p = []
          · have e : misC 3 v u.v (kidsR T u.p) = 0 := by unfold misC; rw [if_neg (fun g => hv0 (.inr hv2) g.2), if_neg (fun g => g.2 hx), if_neg (by omega)]
            rw [e, if_neg (by simp)]
            have h9 := ro_drope a c T s st p d v f u q w h hT hm hq hu hv hv2 hx
            rw [erase_filter hi.srt hq] at h9
            exact h9
          · have e : misC 3 v u.v (kidsR T u.p) = 43 := by unfold misC; rw [if_neg (fun g => hv0 (.inr hv2) g.2), if_pos ⟨rfl, hx⟩]
            rw [e]
            exact ro_43e a c T s st p d v f u q w h hT hm hq hu hv hv2 hx
        · have e : misC 3 v u.v (kidsR T u.p) = 42 := by unfold misC; rw [if_pos ⟨.inr (.inl rfl), by simpa using hv, by simpa using hv2⟩]
          rw [e]
          exact ro_42 a c T s st 3 p d v f u q w h hT hm (by omega) hq hu hv hv2
      · -- check
        rcases hvc with hv | ⟨hv, hv2⟩ | ⟨hv, hv2⟩
        · have e : misC 4 v u.v (kidsR T u.p) = 0 := by unfold misC; rw [if_neg (fun g => hv0 (.inl hv) g.2), if_neg (by omega), if_neg (by omega)]
          rw [e, if_neg (by simp)]
          exact ro_look4m a c T s st p d v f u q w h hT hm hq hu hv
        · have e : misC 4 v u.v (kidsR T u.p) = 0 := by unfold misC; rw [if_neg (fun g => hv0 (.inr hv2) g.2), if_neg (by omega), if_neg (by omega)]
          rw [e, if_neg (by simp)]
          exact ro_look4e a c T s st p d v f u q w h hT hm hq hu hv hv2
        · have e : misC 4 v u.v (kidsR T u.p) = 42 := by unfold misC; rw [if_pos ⟨.inr (.inr rfl), by simpa using hv, by simpa using hv2⟩]
          rw [e]
          exact ro_42 a c T s st 4 p d v f u q w h hT hm (by omega) hq hu hv hv2
      · have e : misC 5 v u.v (kidsR T u.p) = 0 := by unfold misC; rw [if_neg (by omega), if_neg (by omega), if_neg (by omega)]
        rw [e, if_neg (by simp)]
        exact ro_get a c T s st p d v f u q w h hT hm hq hu
      · have e : misC 6 v u.v (kidsR T u.p) = 0 := by unfold misC; rw [if_neg (by omega), if_neg (by omega), if_neg (by omega)]
        rw [e, if_neg (by simp)]
        exact ro_look6 a c T s st p d v f u q w h hT hm hq hu
      · have e : misC 7 v u.v (kidsR T u.p) = 0 := by unfold misC; rw [if_neg (by omega), if_neg (by omega), if_neg (by omega)]
        rw [e, if_neg (by simp)]
        have h9 := ro_list a c T s st p d v f u q w h hT hm hq hu
        rw [← hkid] at h9
        exact h9
  · rw [if_pos hm]
    exact ro_mal a c T s st k p d v f w h hT hm
end Go.Proofs.YthelfbdkbldhjaaGreatDoor
