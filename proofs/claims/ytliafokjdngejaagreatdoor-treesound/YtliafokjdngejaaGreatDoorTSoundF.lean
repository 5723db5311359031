import Derived.Test.YtliafokjdngejaaGreatDoorTGone
import Derived.BigQuiet
import Derived.Deep.QuietTactic
namespace Go.Proofs.YtliafokjdngejaaGreatDoor
open Go.RowKit Go.Maps Go.WideShapes
set_option linter.unusedVariables false
set_option linter.unusedSimpArgs false
attribute [local go_sem ↓] Go.wp_at_zero Go.wp_at_succ

theorem ordL_pre : ∀ (s t : List UInt8), t ≠ [] → ordL s (s ++ t) = -1
  | [], [], h => absurd rfl h
  | [], _ :: _, _ => rfl
  | x :: r, t, h => by
    show ordL (x :: r) (x :: (r ++ t)) = -1
    unfold ordL
    rw [if_pos rfl]
    exact ordL_pre r t h
theorem par_pre {p : ByteArray} (hp : (parse p).1 = 0) (hr : p ≠ pRt) : ∃ t, t ≠ [] ∧ p.data.toList = (parB p).data.toList ++ t := by
  obtain ⟨xs, k, x, hx, hl, hk, _⟩ := names_of hp hr
  have hne : xs ≠ [] := fun e => by rw [e] at hl; simp at hl
  have hxs : xs = xs.take k ++ [x] := by
    have := List.take_add_one (l := xs) (i := k)
    rw [hk, ← hl, List.take_length] at this
    exact this
  have ht : p.data.toList = flatN (xs.take k) ++ 47 :: x.data.toList := by
    rw [← parse_back hx, placeB, if_neg hne, data_mk]
    conv => lhs; rw [hxs]
    simp [flatN]
  have hx0 : x.data.toList ≠ [] := fun e => by
    have hall := (parse_len hx).2
    rw [List.all_eq_true] at hall
    have h9 := hall x (List.mem_of_getElem? hk)
    have : x.size = 0 := by have h8 := congrArg List.length e; simpa using h8
    simp [isNm, this] at h9
  rw [par_of (x := x) hx hl]
  by_cases h0 : xs.take k = []
  · refine ⟨x.data.toList, hx0, ?_⟩
    rw [ht, h0, placeB, if_pos rfl, data_mk]
    rfl
  · refine ⟨47 :: x.data.toList, by simp, ?_⟩
    rw [ht, placeB, if_neg h0, data_mk]
theorem par_less {p : ByteArray} (hp : (parse p).1 = 0) (hr : p ≠ pRt) : O (parB p) p = -1 := by
  obtain ⟨t, h0, h1⟩ := par_pre hp hr
  rw [O_list, h1]
  exact ordL_pre _ _ h0
theorem root_less {p : ByteArray} (hp : (parse p).1 = 0) (hr : p ≠ pRt) : O pRt p = -1 := by
  obtain ⟨xs, k, x, hx, hl, hk, _⟩ := names_of hp hr
  have hne : xs ≠ [] := fun e => by rw [e] at hl; simp at hl
  obtain ⟨y, r, rfl⟩ : ∃ y r, xs = y :: r := by cases xs with | nil => exact absurd rfl hne | cons y r => exact ⟨y, r, rfl⟩
  have hy0 : y.data.toList ≠ [] := fun e => by
    have hall := (parse_len hx).2
    rw [List.all_eq_true] at hall
    have h9 := hall y List.mem_cons_self
    have : y.size = 0 := by have h8 := congrArg List.length e; simpa using h8
    simp [isNm, this] at h9
  have ht : p.data.toList = [47] ++ (y.data.toList ++ flatN r) := by
    rw [← parse_back hx, placeB, if_neg hne, data_mk]
    simp [flatN]
  rw [O_list, ht]
  exact ordL_pre [47] _ (by simp [hy0])
theorem Snd.first {T : List Nd} (h : Snd T) : ∃ r, T[0]? = some r ∧ r.p = pRt ∧ r.o = 0 := by
  obtain ⟨r, hr, hp, ho⟩ := h.root
  cases T with
  | nil => cases hr
  | cons x U =>
    refine ⟨x, rfl, ?_⟩
    rcases List.mem_cons.1 hr with rfl | hr
    · exact ⟨hp, ho⟩
    · exfalso
      have h1 := (List.pairwise_cons.1 h.inv.srt).1 r hr
      rw [hp] at h1
      by_cases hx : x.p = pRt
      · rw [hx, O_self] at h1
        cases h1
      · have h2 := root_less (h.inv.nd x List.mem_cons_self).1 hx
        rw [O_anti x.p pRt, h1] at h2
        cases h2
theorem Snd.above {T : List Nd} (h : Snd T) {i : Nat} {x : Nd} (hi : 0 < i) (hx : T[i]? = some x) : x.p ≠ pRt ∧ ∃ k u, k < i ∧ T[k]? = some u ∧ u.p = parB x.p ∧ u.o = 0 := by
  have hil := (List.getElem?_eq_some_iff.1 hx).1
  have hxm := List.mem_of_getElem? hx
  obtain ⟨r, hr0, hrp, _⟩ := h.first
  have hlt : ∀ {j k : Nat} {y z : Nd}, T[j]? = some y → T[k]? = some z → j < k → O y.p z.p = -1 := fun {j k y z} hy hz hjk => by
    obtain ⟨hj, e1⟩ := List.getElem?_eq_some_iff.1 hy
    obtain ⟨hk, e2⟩ := List.getElem?_eq_some_iff.1 hz
    have := List.pairwise_iff_getElem.1 h.inv.srt j k hj hk hjk
    rw [e1, e2] at this
    exact this
  have hxr : x.p ≠ pRt := fun e => by
    have := hlt hr0 hx hi
    rw [hrp, e, O_self] at this
    cases this
  refine ⟨hxr, ?_⟩
  obtain ⟨u, hu, hup, huo⟩ := h.up x hxm hxr
  obtain ⟨k, hk⟩ := List.mem_iff_getElem?.1 hu
  refine ⟨k, u, ?_, hk, hup, huo⟩
  have h1 := par_less (h.inv.nd x hxm).1 hxr
  rcases Nat.lt_trichotomy k i with hki | hki | hki
  · exact hki
  · subst hki
    rw [hx] at hk
    obtain rfl := Option.some.inj hk
    rw [← hup, O_self] at h1
    cases h1
  · have h2 := hlt hx hk hki
    rw [hup] at h2
    rw [O_anti x.p (parB x.p), h2] at h1
    cases h1
theorem Snd.order {T : List Nd} (h : Snd T) {i : Nat} {x y : Nd} (hy : T[i]? = some y) (hx : T[i + 1]? = some x) : O y.p x.p = -1 := by
  obtain ⟨hj, e1⟩ := List.getElem?_eq_some_iff.1 hy
  obtain ⟨hk, e2⟩ := List.getElem?_eq_some_iff.1 hx
  have := List.pairwise_iff_getElem.1 h.inv.srt i (i + 1) hj hk (by omega)
  rw [e1, e2] at this
  exact this
theorem parC_zero {p : ByteArray} (hp : (parse p).1 = 0) (hr : p ≠ pRt) : parC p = 0 := by
  obtain ⟨xs, k, x, hx, hl, _, _⟩ := names_of hp hr
  unfold parC
  rw [hx, if_pos rfl, if_neg (fun e => by rw [show xs = [] from e] at hl; simp at hl)]
theorem numT_any (e0 : Int) (w : World) : Calls Tryz.prog 12 #[.int .i64 e0] w fun e w' => e = .returned (.int .i64 e0) ∧ w' = w := by
  go_enter Tryz.func12, Tryz.ntmps12
  go_wp2
  go_ret
  exact ⟨rfl, rfl⟩
/-- Is one of the first ones there, and not brief? -/
def thereB (T : List Nd) (p : ByteArray) : Bool := T.any (fun y => decide (y.p = p) && decide (y.o = 0))
theorem there_snoc {T : List Nd} {p : ByteArray} {q : Nat} {x : Nd} (hx : T[q]? = some x) : thereB (T.take (q + 1)) p = (thereB (T.take q) p || (decide (x.p = p) && decide (x.o = 0))) := by
  unfold thereB
  rw [List.take_add_one, hx, List.any_append]
  simp
theorem there_of {T : List Nd} {p : ByteArray} {q k : Nat} {u : Nd} (hk : k < q) (hu : T[k]? = some u) (hp : u.p = p) (ho : u.o = 0) : thereB (T.take q) p = true := by
  unfold thereB
  rw [List.any_eq_true]
  refine ⟨u, List.mem_of_getElem? (i := k) (by rw [List.getElem?_take, if_pos hk]; exact hu), by simp [hp, ho]⟩
end Go.Proofs.YtliafokjdngejaaGreatDoor
namespace Go.Proofs.YtliafokjdngejaaGreatDoor
open Go.RowKit Go.Maps Go.WideShapes
set_option linter.unusedVariables false
set_option linter.unusedSimpArgs false
attribute [local go_sem ↓] Go.wp_at_zero Go.wp_at_succ

set_option maxHeartbeats 6400000 in
set_option maxRecDepth 100000 in
theorem sound_any (B g cap : Nat) (T : List Nd) (w : World) (hS : Snd T) (hr : w.ownsRow B 54 7 (.slice (some ⟨g, 0, none⟩) T.length cap) T.length (T.flatMap Nd.cs)) (hg : Ground w) :
    Calls Tryz.prog 17 #[.slice (some ⟨g, 0, none⟩) T.length cap] w fun e w' => e = .returned (.bool true) ∧ Below w.heap.size w w' := by
  have HS : Hid (Snd T) := hS
  have HG : Hid (Ground w) := hg
  have hgl : g < w.heap.size := (hr.lt g rfl).2
  have HND : Hid (∀ (wr : World), Below w.heap.size w wr → ∀ q j x v, T[q]? = some x → x.cs[j]? = some v → wr.cell? ⟨g, q * 7 + j, none⟩ = some v) := fun wr hb q j x v hx hv => by rw [hb.cell (p := ⟨g, q * 7 + j, none⟩) hgl]; exact nd_cell hr hx hv
  obtain ⟨r0, hr0, hrp, hro⟩ := hS.first
  have z0 : w.cell? ⟨g, 0, none⟩ = some (.string pRt) := by have := HND.out w (Below.refl _ _) 0 0 r0 _ hr0 rfl; rw [hrp] at this; simpa using this
  have z5 : w.cell? ⟨g, 5, none⟩ = some (.int .i64 0) := by have := HND.out w (Below.refl _ _) 0 5 r0 _ hr0 rfl; rw [hro] at this; simpa using this
  obtain ⟨N, hN⟩ : ∃ N, T.length = N := ⟨_, rfl⟩
  have HN : Hid (T.length = N) := hN
  have hN1 : 1 ≤ N := by rw [← hN]; exact (List.getElem?_eq_some_iff.1 hr0).1
  have hN64 : N ≤ 64 := by rw [← hN]; exact hS.inv.len
  have c1 : ¬ (N : Int) < 1 := by omega
  have c2 : ¬ (64 : Int) < (N : Int) := by omega
  rw [hN]
  clear hr hg hS hN hr0 hrp hro
  go_enter Tryz.func17, Tryz.ntmps17
  go_wp2_with fail
  clear z0 z5
  go_loopw [3] (fun i wr => ∃ q : Nat, i = .int .i64 q ∧ 1 ≤ q ∧ q ≤ N ∧ Hid (Below w.heap.size w wr)) (fun i _ => N - (intOf i).toNat)
  case atStart => exact ⟨1, rfl, Nat.le_refl _, hN1, Below.refl _ _⟩
  case round =>
    obtain ⟨q, rfl, hq1, hq, HBr⟩ := hrel
    by_cases hlt : q < N
    · have hlt' : (q : Int) < (N : Int) := by omega
      obtain ⟨m, rfl⟩ : ∃ m, q = m + 1 := ⟨q - 1, by omega⟩
      obtain ⟨x, hx⟩ : ∃ x, T[m + 1]? = some x := ⟨T[m + 1]'(by rw [HN.out]; exact hlt), List.getElem?_eq_getElem _⟩
      obtain ⟨y, hy⟩ : ∃ y, T[m]? = some y := ⟨T[m]'(by rw [HN.out]; omega), List.getElem?_eq_getElem _⟩
      obtain ⟨hxr, k, u, hk, hu, hup, huo⟩ := HS.out.above (by omega) hx
      have hxn := HS.out.inv.nd x (List.mem_of_getElem? hx)
      have hyn := HS.out.inv.nd y (List.mem_of_getElem? hy)
      have hxs := size_of_parse hxn.1
      have hys := size_of_parse hyn.1
      have HO : Hid (O y.p x.p = -1) := HS.out.order hy hx
      have HPC : Hid (parC x.p = 0) := parC_zero hxn.1 hxr
      have HOR : Hid (∀ W : World, Calls Tryz.prog 40 #[.string y.p, .string x.p] W fun e w' => e = .returned (.int .i64 (-1)) ∧ ∃ m, w' = W.drewN m) := fun W => by
        have h9 := order_O y.p x.p (by unfold maxLen; omega) (by unfold maxLen; omega) W
        rw [HO.out] at h9
        exact h9
      have HX : Hid (∀ (wr : World), Below w.heap.size w wr → ∀ j v, x.cs[j]? = some v → wr.cell? ⟨g, (m + 1) * 7 + j, none⟩ = some v) := fun wr hb j v hv => HND.out wr hb _ j x v hx hv
      have HY : Hid (∀ (wr : World), Below w.heap.size w wr → wr.cell? ⟨g, m * 7, none⟩ = some (.string y.p)) := fun wr hb => HND.out wr hb m 0 y _ hy rfl
      have HTH : Hid (thereB (T.take (m + 1)) (parB x.p) = true) := there_of hk hu hup huo
      have hd64 : ¬ (64 : Int) < (x.d.size : Int) := by have := hxn.2.1; omega
      obtain ⟨P, hP⟩ : ∃ P, parB x.p = P := ⟨_, rfl⟩
      have HP : Hid (parB x.p = P) := hP
      have HPA : Hid (∀ W : World, Ground W → Calls Tryz.prog 39 #[.string x.p] W fun e w' => e = .returned (.tuple #[.string P, .int .i64 0]) ∧ Below W.heap.size W w') := fun W hW => by
        have h9 := parentOf_any x.p W hW
        rw [HPC.out, HP.out] at h9
        exact h9
      rw [hP] at HTH
      have n0 : wr.cell? ⟨g, (m + 1) * 7, none⟩ = some (.string x.p) := HX.out wr HBr.out 0 _ rfl
      have hgr : g < wr.heap.size := Nat.lt_of_lt_of_le hgl HBr.out.size
      clear hP hx hy hk hu hup huo hxn hyn hxr
      go_wp2_with (first
        | (go_at_call 39; refine Calls.mono (HPA.out _ (HG.out.below HBr.out)) ?_; rintro e w1 ⟨rfl, hb1⟩
           have HB1 : Hid (Below w.heap.size w w1) := trans2 HBr.out hb1
           clear hb1 n0)
        | fail)
      have n0 : w1.cell? ⟨g, (m + 1) * 7, none⟩ = some (.string x.p) := HX.out w1 HB1.out 0 _ rfl
      have n1 := HX.out w1 HB1.out 1 _ rfl
      have y0 := HY.out w1 HB1.out
      have hw1 : IntKind.i64.wrap (((m + 1 : Nat) : Int) - 1) = (m : Int) := by rw [IntKind.wrap_i64]; omega
      have hw2 : IntKind.i64.wrap ((m : Int) + 1 - 1) = (m : Int) := by rw [IntKind.wrap_i64]; omega
      go_upto_region 7 with fail
      go_quiet (first | (go_at_call 12; exact Calls.quiet_of_same (numT_any _ _)) | (go_at_call 40; exact Calls.quiet_of (HOR.out _)) | fail)
      have HB2 : Hid (Below w.heap.size w (w1.drewN nq)) := below_dN HB1.out nq
      obtain ⟨w2, hw2'⟩ : ∃ w2, w1.drewN nq = w2 := ⟨_, rfl⟩
      rw [hw2'] at HB2 ⊢
      clear hw2' n0 n1 y0
      go_wp2_with fail
      go_loopw [6, 7] (fun th i wr => ∃ k : Nat, i = .int .i64 k ∧ k ≤ m + 1 ∧ th = .bool (thereB (T.take k) P) ∧ Hid (Below w.heap.size w wr)) (fun _ i _ => m + 1 - (intOf i).toNat)
      case atStart => exact ⟨0, rfl, Nat.zero_le _, rfl, HB2.out⟩
      case round =>
        obtain ⟨k, rfl, hk, rfl, HBk⟩ := hrel
        by_cases hlk : k < m + 1
        · have hlk' : (k : Int) < ((m + 1 : Nat) : Int) := by omega
          have hlk2 : (k : Int) < (m : Int) + 1 := by omega
          obtain ⟨z, hz⟩ : ∃ z, T[k]? = some z := ⟨T[k]'(by rw [HN.out]; omega), List.getElem?_eq_getElem _⟩
          have hkN : k < N := by omega
          have z0 : wr.cell? ⟨g, k * 7, none⟩ = some (.string z.p) := HND.out wr HBk.out k 0 z _ hz rfl
          have z5 := HND.out wr HBk.out k 5 z _ hz rfl
          have HSN : Hid (thereB (T.take (k + 1)) P = (thereB (T.take k) P || (decide (z.p = P) && decide (z.o = 0)))) := there_snoc hz
          obtain ⟨tb, htb⟩ : ∃ tb, thereB (T.take k) P = tb := ⟨_, rfl⟩
          rw [htb] at HSN ⊢
          clear htb hz
          have hgk : g < wr.heap.size := Nat.lt_of_lt_of_le hgl HBk.out.size
          cases tb with
          | true =>
            go_wp2_with fail
            go_roundw
            case rel => exact ⟨k + 1, by go_num, by omega, by rw [HSN.out]; rfl, HBk.out⟩
            case measure => simp [intOf]; omega
          | false =>
            by_cases hzp : z.p = P
            · have HZP : Hid (z.p = P) := hzp
              rw [hzp] at z0
              clear hzp
              by_cases hzo : z.o = 0
              · have HZO : Hid (z.o = 0) := hzo
                have z5' : wr.cell? ⟨g, k * 7 + 5, none⟩ = some (.int .i64 0) := by rw [z5, hzo]
                clear z5 hzo
                go_wp2_with fail
                go_roundw
                case rel => exact ⟨k + 1, by go_num, by omega, by rw [HSN.out]; simp [HZP.out, HZO.out], HBk.out⟩
                case measure => simp [intOf]; omega
              · have HZO : Hid (¬ z.o = 0) := hzo
                have e5 : (z.o == 0) = false := by simpa using hzo
                clear hzo
                go_wp2_with fail
                go_roundw
                case rel => exact ⟨k + 1, by go_num, by omega, by rw [HSN.out]; simp [HZO.out], HBk.out⟩
                case measure => simp [intOf]; omega
            · have HZP : Hid (¬ z.p = P) := hzp
              have e4 : (z.p.toList == P.toList) = false := by
                cases hb : (z.p.toList == P.toList) with
                | false => rfl
                | true =>
                  exfalso
                  have h1 : z.p.toList = P.toList := by simpa using hb
                  rw [ByteArray.toList_eq, ByteArray.toList_eq] at h1
                  exact hzp (ByteArray.ext (Array.ext' h1))
              clear hzp
              go_wp2_with fail
              go_roundw
              case rel => exact ⟨k + 1, by go_num, by omega, by rw [HSN.out]; simp [HZP.out], HBk.out⟩
              case measure => simp [intOf]; omega
        · obtain rfl : k = m + 1 := by omega
          rw [HTH.out]
          go_wp2_with fail
          go_roundw
          case rel => exact ⟨m + 1 + 1, by go_num, by omega, by omega, HBk.out⟩
          case measure => simp [intOf]; omega
    · obtain rfl : q = N := by omega
      go_wp2_with fail
      go_ret
      exact ⟨rfl, HBr.out⟩
end Go.Proofs.YtliafokjdngejaaGreatDoor
