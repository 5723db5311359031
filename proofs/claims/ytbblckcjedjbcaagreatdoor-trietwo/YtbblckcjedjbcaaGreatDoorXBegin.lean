/-
  heraldlaw9: sameTags, begins.
-/
import Derived.Test.YtbblckcjedjbcaaGreatDoorXAt
namespace Go.Proofs.YtbblckcjedjbcaaGreatDoor
open Go.RowKit Go.Maps
set_option linter.unusedVariables false
set_option linter.unusedSimpArgs false

/-- Tags in memory. -/
def TsAt (w : World) (v : Value) (ts : List Tg) : Prop := w.ownsRow 0 34 2 v ts.length (tgCs ts)
theorem TsAt.below {w w' : World} {v : Value} {ts : List Tg} (h : TsAt w v ts) (hb : Below w.heap.size w w') : TsAt w' v ts := owns_below h hb
theorem tg_cells (ts : List Tg) {j : Nat} {t : Tg} (h : ts[j]? = some t) : (tgCs ts)[j * 2]? = some (.int .i64 t.1) ∧ (tgCs ts)[j * 2 + 1]? = some (.int .i64 t.2) := by
  have hj := (List.getElem?_eq_some_iff.1 h).1
  have he := (List.getElem?_eq_some_iff.1 h).2
  have h1 := tgCs_at ts (j * 2) (by omega)
  have h2 := tgCs_at ts (j * 2 + 1) (by omega)
  have e1 : (j * 2) / 2 = j := by omega
  have e2 : (j * 2) % 2 = 0 := by omega
  have e3 : (j * 2 + 1) / 2 = j := by omega
  have e4 : (j * 2 + 1) % 2 = 1 := by omega
  have e5 : ts.toArray[j]! = t := by simp [hj, he]
  rw [e1, e2, e5] at h1
  rw [e3, e4, e5] at h2
  exact ⟨h1, h2⟩
theorem TsAt.at {w : World} {a : Option Addr} {c : Nat} {ts : List Tg} (h : TsAt w (.slice a ts.length c) ts) {j : Nat} {t : Tg} (ht : ts[j]? = some t) : ∃ g, a = some ⟨g, 0, none⟩ ∧ w.cell? ⟨g, j * 2, none⟩ = some (.int .i64 t.1) ∧ w.cell? ⟨g, j * 2 + 1, none⟩ = some (.int .i64 t.2) := by
  rcases h.2 with ⟨h0, h1⟩ | ⟨g, cap, cur, hv, _⟩
  · have : ts = [] := by simpa using h1
    subst this
    simp at ht
  · have hv' := hv
    simp only [Value.slice.injEq] at hv'
    obtain ⟨rfl, _, rfl⟩ := hv'
    obtain ⟨h1, h2⟩ := tg_cells ts ht
    exact ⟨g, rfl, cell_n h h1, cell_n h h2⟩
set_option maxHeartbeats 16000000 in
set_option maxRecDepth 100000 in
theorem sameTags_any (v u : Value) (ts us : List Tg) (w : World) (hv : TsAt w v ts) (hu : TsAt w u us) (hl : ts.length ≤ 100000) :
    Calls Tryz.prog 17 #[v, u] w fun e w' => e = .returned (.bool (decide (ts = us))) ∧ Below w.heap.size w w' := by
  obtain ⟨a, c, rfl⟩ := owns_shape hv
  obtain ⟨b, d, rfl⟩ := owns_shape hu
  by_cases hlen : ts.length = us.length
  · have HV : Hid (TsAt w (.slice a ts.length c) ts) := hv
    have HU : Hid (TsAt w (.slice b us.length d) us) := hu
    have HLN : Hid (ts.length = us.length) := hlen
    obtain ⟨m, hm⟩ : ∃ m, ts.length = m := ⟨_, rfl⟩
    have HM : Hid (ts.length = m) := hm
    have HUM : Hid (us.length = m) := hlen.symm.trans hm
    rw [hm] at hl ⊢
    rw [show us.length = m from HUM.out]
    clear hv hu hlen hm
    go_enter Tryz.func17, Tryz.ntmps17
    go_wp2_with fail
    go_loopw [5] (fun vi wr => ∃ j : Nat, vi = .int .i64 j ∧ j ≤ m ∧ Hid (∀ q, q < j → ts[q]? = us[q]?) ∧ Hid (Below w.heap.size w wr)) (fun vi _ => m - (intOf vi).toNat)
    case atStart => exact ⟨0, rfl, Nat.zero_le _, fun q hq => absurd hq (Nat.not_lt_zero _), Below.refl _ _⟩
    case round =>
      obtain ⟨j, rfl, hj, HE, HB⟩ := hrel
      by_cases hlt : j < m
      · have hlt' : (j : Int) < (m : Int) := by omega
        obtain ⟨t, ht⟩ : ∃ t, ts[j]? = some t := ⟨ts[j]'(by rw [HM.out]; exact hlt), List.getElem?_eq_getElem _⟩
        obtain ⟨s, hs⟩ : ∃ s, us[j]? = some s := ⟨us[j]'(by rw [HUM.out]; exact hlt), List.getElem?_eq_getElem _⟩
        obtain ⟨g, rfl, x0, x1⟩ := (HV.out.below HB.out).at ht
        obtain ⟨k, rfl, y0, y1⟩ := (HU.out.below HB.out).at hs
        obtain ⟨t1, t2⟩ := t
        obtain ⟨s1, s2⟩ := s
        simp only at x0 x1 y0 y1
        have HT : Hid (ts[j]? = some (t1, t2)) := ht
        have HS : Hid (us[j]? = some (s1, s2)) := hs
        clear ht hs
        by_cases h1 : t1 = s1
        · by_cases h2 : t2 = s2
          · subst h1
            subst h2
            go_wp2_with fail
            go_quiet (fail)
            go_wp2_with fail
            go_roundw
            case rel =>
              refine ⟨j + 1, by go_num, by omega, fun q hq => ?_, below_drewN HB.out _⟩
              by_cases e : q = j
              · subst e
                rw [HT.out, HS.out]
              · exact HE.out q (by omega)
            case measure => simp [intOf]; omega
          · subst h1
            have hne : decide (ts = us) = false := by
              rw [decide_eq_false_iff_not]
              intro e
              have h3 := HT.out
              rw [e, HS.out] at h3
              cases h3
              exact h2 rfl
            have HNE : Hid (decide (ts = us) = false) := hne
            clear hne
            go_wp2_with fail
            go_quiet (fail)
            go_wp2_with fail
            go_ret
            exact ⟨by rw [HNE.out]; rfl, below_drewN HB.out _⟩
        · have hne : decide (ts = us) = false := by
            rw [decide_eq_false_iff_not]
            intro e
            have h3 := HT.out
            rw [e, HS.out] at h3
            cases h3
            exact h1 rfl
          have HNE : Hid (decide (ts = us) = false) := hne
          clear hne
          go_wp2_with fail
          go_quiet (fail)
          go_wp2_with fail
          go_ret
          exact ⟨by rw [HNE.out]; rfl, below_drewN HB.out _⟩
      · have hge : ¬ ((j : Int) < (m : Int)) := by omega
        have hyes : decide (ts = us) = true := by
          rw [decide_eq_true_eq]
          apply List.ext_getElem?
          intro q
          by_cases hq : q < m
          · exact HE.out q (by omega)
          · rw [List.getElem?_eq_none (by rw [HM.out]; omega), List.getElem?_eq_none (by rw [HUM.out]; omega)]
        have HY : Hid (decide (ts = us) = true) := hyes
        clear hyes
        go_wp2_with fail
        go_ret
        exact ⟨by rw [HY.out]; rfl, HB.out⟩
  · have hne : decide (ts = us) = false := by rw [decide_eq_false_iff_not]; intro e; exact hlen (by rw [e])
    have hlen' : ¬ ((ts.length : Int) = (us.length : Int)) := by omega
    have HNE : Hid (decide (ts = us) = false) := hne
    clear hv hu hne
    go_enter Tryz.func17, Tryz.ntmps17
    go_wp2_with fail
    go_ret
    exact ⟨by rw [HNE.out]; rfl, Below.refl _ _⟩
end Go.Proofs.YtbblckcjedjbcaaGreatDoor
