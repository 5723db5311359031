/-
  heraldref16: Double, Take.
-/
import Derived.Test.YtfcobhgjkibdgaaLRefC
namespace Go.Proofs.Ytfcobhgjkibdgaa
open Go.RowKit
set_option linter.unusedVariables false
set_option linter.unusedSimpArgs false

theorem results_ctt {P : Program} {fn : Func} {p q r : Tmp} {ty : TypeId} (h : fn.results = #[.cell p ty, .tmp q, .tmp r]) (tmps : Array Value) (w : World) (g : Nat) (t : TypeId) (cs : Array Value) (fr : Nat × Nat) (d : TypeDesc) (v u : Value)
    (hp : tmps.getD p undef = .pointer (some ⟨g, 0, none⟩)) (hq : tmps.getD q undef = v) (hr : tmps.getD r undef = u) (hg : w.heap[g]? = some (.cells cs t fr))
    (hu : P.underlying ty = some d) (hd : (match d with | .struct _ | .array _ _ => true | _ => false) = true) (hi : (P.info? ty).map (·.size) = some cs.size) :
    (results fn tmps).run P w = .ok (.tuple #[.agg cs, v, u]) w := by
  have hp' : tmps[p]?.getD undef = .pointer (some ⟨g, 0, none⟩) := by simpa using hp
  have hq' : tmps[q]?.getD undef = v := by simpa using hq
  have hr' : tmps[r]?.getD undef = u := by simpa using hr
  simp [results, h, hp', hq', hr', asAddr, run_loadVar_row w g t ty cs fr d hg hu hd hi]
theorem results_cct {P : Program} {fn : Func} {p q r : Tmp} {ty ty' : TypeId} (h : fn.results = #[.cell p ty, .cell q ty', .tmp r]) (tmps : Array Value) (w : World) (g g' : Nat) (t t' : TypeId) (cs cs' : Array Value) (fr fr' : Nat × Nat) (d d' : TypeDesc) (u : Value)
    (hp : tmps.getD p undef = .pointer (some ⟨g, 0, none⟩)) (hq : tmps.getD q undef = .pointer (some ⟨g', 0, none⟩)) (hr : tmps.getD r undef = u) (hg : w.heap[g]? = some (.cells cs t fr)) (hg' : w.heap[g']? = some (.cells cs' t' fr'))
    (hu : P.underlying ty = some d) (hd : (match d with | .struct _ | .array _ _ => true | _ => false) = true) (hi : (P.info? ty).map (·.size) = some cs.size)
    (hu' : P.underlying ty' = some d') (hd' : (match d' with | .struct _ | .array _ _ => true | _ => false) = true) (hi' : (P.info? ty').map (·.size) = some cs'.size) :
    (results fn tmps).run P w = .ok (.tuple #[.agg cs, .agg cs', u]) w := by
  have hp' : tmps[p]?.getD undef = .pointer (some ⟨g, 0, none⟩) := by simpa using hp
  have hq' : tmps[q]?.getD undef = .pointer (some ⟨g', 0, none⟩) := by simpa using hq
  have hr' : tmps[r]?.getD undef = u := by simpa using hr
  simp [results, h, hp', hq', hr', asAddr, run_loadVar_row w g t ty cs fr d hg hu hd hi, run_loadVar_row w g' t' ty' cs' fr' d' hg' hu' hd' hi']
/-- Once more in flight. -/
def LnT.dbl (L : LnT) (n : Int) : LnT × Int × Int := match fnd L.fl n with
  | none => (L, 0, 160)
  | some p => if (L.put p.m p.s).2 < 0 then (L, 0, 46) else ((L.put p.m p.s).1, (L.put p.m p.s).2, 0)
set_option maxHeartbeats 3200000 in
set_option maxRecDepth 100000 in
theorem refDouble_any (L : LnT) (n : Int) (v : Value) (w : World) (h : FlAt w v L.fl) (hl : L.fl.length ≤ 256) (hgv : L.gv ≤ 1099511627776) :
    Calls Try.prog 42 #[lnV v L.gv L.no, .int .i64 n] w fun e w' => ∃ v', e = .returned (.tuple #[lnV v' (L.dbl n).1.gv (L.dbl n).1.no, .int .i64 (L.dbl n).2.1, .int .i64 (L.dbl n).2.2]) ∧ FlAt w' v' (L.dbl n).1.fl ∧ Below w.heap.size w w' := by
  obtain ⟨a, c, rfl, _⟩ := fl_form h
  obtain ⟨qn, hqn⟩ : ∃ z, L.fl.length = z := ⟨_, rfl⟩
  have HFL : Hid (FlAt w (.slice a qn c) L.fl) := by rw [← hqn]; exact h
  have HQ : Hid (L.fl.length = qn) := hqn
  rw [hqn] at hl ⊢
  obtain ⟨hA, hB, hbel⟩ := pair_blocks (w := w) (t := 56) (cs := #[.slice a qn c, .int .i64 L.gv, .bool L.no]) (t' := 56) (cs' := #[.slice none 0 0, .int .i64 0, .bool false])
  obtain ⟨W, hW⟩ : ∃ W, ((w.alloc (.cells #[.slice a qn c, .int .i64 L.gv, .bool L.no] 56)).alloc (.cells #[.slice none 0 0, .int .i64 0, .bool false] 56)) = W := ⟨_, rfl⟩
  rw [hW] at hA hB hbel
  obtain ⟨g, hg⟩ : ∃ g, w.heap.size = g := ⟨_, rfl⟩
  have HBW : Hid (Below w.heap.size w W) := hbel
  rw [hg] at hA hB
  have HG : Hid (w.heap.size = g) := hg
  have HW : Hid (_ = W) := hW
  have HA : Hid (W.heap[g]? = some (.cells #[.slice a qn c, .int .i64 L.gv, .bool L.no] 56 (0, 0))) := hA
  have HB : Hid (W.heap[g + 1]? = some (.cells #[.slice none 0 0, .int .i64 0, .bool false] 56 (0, 0))) := hB
  have HF : Hid (∀ w', Below w.heap.size w w' → _) := fun w' hb => refFind_any L.fl L.gv L.no n (.slice a qn c) w' (owns_below HFL.out hb) (by rw [HQ.out]; exact hl)
  have HP : Hid (∀ (p : PcT) w', Below w.heap.size w w' → _) := fun p w' hb => refPut_all L p.m p.s (.slice a qn c) w' (owns_below HFL.out hb) (by rw [HQ.out]; exact hl) hgv
  obtain ⟨c0, c1, c2⟩ := cells_3 hA
  have hcase := fnd_cases L.fl n
  obtain ⟨R, hR⟩ : ∃ R, L.dbl n = R := ⟨_, rfl⟩
  have HR : Hid (L.dbl n = R) := hR
  rw [hR]
  clear hW hA hB hbel hqn h hg hR
  go_enter Try.func42, Try.ntmps42
  go_upto_region 1 with fail
  rw [HW.out, HG.out]
  go_wp2_with fail
  refine Calls.mono (HF.out _ HBW.out) ?_
  rintro e w1 ⟨rfl, hb1⟩
  have HA1 : Hid (w1.heap[g]? = some (.cells #[.slice a qn c, .int .i64 L.gv, .bool L.no] 56 (0, 0))) := kept_block hb1 HA.out
  have HB1 : Hid (w1.heap[g + 1]? = some (.cells #[.slice none 0 0, .int .i64 0, .bool false] 56 (0, 0))) := kept_block hb1 HB.out
  have HBW1 : Hid (Below w.heap.size w w1) := trans2 HBW.out hb1
  obtain ⟨d0, d1, d2⟩ := cells_3 HA1.out
  obtain ⟨r0, r1, r2⟩ := cells_3 HB1.out
  have f1 := free_of HB1.out
  clear hb1 c0 c1 c2
  have fin : ∀ wz, Below w.heap.size w wz → wz.heap[g + 1]? = some (.cells #[.slice none 0 0, .int .i64 0, .bool false] 56 (0, 0)) → FlAt (put_3 wz (g + 1) (.slice a qn c) (.int .i64 L.gv) (.bool L.no)) (.slice a qn c) L.fl ∧ Below w.heap.size w (put_3 wz (g + 1) (.slice a qn c) (.int .i64 L.gv) (.bool L.no)) := fun wz hb hbx =>
    ⟨row_other (owns_below HFL.out hb) (chg_put3 wz (g + 1) _ _ _) (Kind.one hbx) (by decide), fillB_3 hb (by rw [HG.out]; omega)⟩
  have FIN : Hid _ := fin
  clear fin
  rcases hcase with ⟨i, p, hp, hn, hI, hf, _⟩ | ⟨hI, hf, _⟩
  · have hD := HR.out
    unfold LnT.dbl at hD
    rw [hf] at hD
    have HD : Hid ((if (L.put p.m p.s).2 < 0 then (L, 0, 46) else ((L.put p.m p.s).1, (L.put p.m p.s).2, 0)) = R) := hD
    obtain ⟨g5, cc, hv, hg5, x0, x1, x2, x3, x4⟩ := fl_get (owns_below HFL.out HBW1.out) hp
    obtain ⟨rfl, rfl⟩ : a = some ⟨g5, 0, none⟩ ∧ c = cc := by simp only [Value.slice.injEq] at hv; exact ⟨hv.1, hv.2.2⟩
    have hi : (i : Int) < (qn : Int) := by have := (List.getElem?_eq_some_iff.1 hp).1; have := HQ.out; omega
    have hi0 : ¬ (i : Int) < 0 := by omega
    rw [hI]
    have HPP : Hid (∀ w', Below w.heap.size w w' → _) := HP.out p
    obtain ⟨PP, hPP⟩ : ∃ z, L.put p.m p.s = z := ⟨_, rfl⟩
    rw [hPP] at HPP HD
    have HSW : Hid (∀ w', Below w1.heap.size w1 w' → w'.cell? ⟨g, 0, none⟩ = some (.slice (some ⟨g5, 0, none⟩) qn c) ∧ w'.cell? ⟨g, 1, none⟩ = some (.int .i64 L.gv) ∧ w'.cell? ⟨g, 2, none⟩ = some (.bool L.no) ∧ w'.cell? ⟨g5, i * 5 + 1, none⟩ = some (.int .i64 p.m.f) ∧ w'.cell? ⟨g5, i * 5 + 2, none⟩ = some (.int .i64 p.m.t) ∧ w'.cell? ⟨g5, i * 5 + 3, none⟩ = some (.string p.m.b) ∧ w'.cell? ⟨g5, i * 5 + 4, none⟩ = some (.bool p.s)) := fun w' hb => by
      obtain ⟨c0, c1, c2⟩ := cells_3 (kept_block hb HA1.out)
      have k : ∀ {o v}, w1.cell? ⟨g5, o, none⟩ = some v → w'.cell? ⟨g5, o, none⟩ = some v := fun hv => by rw [hb.cell (p := ⟨g5, _, none⟩) hg5]; exact hv
      exact ⟨c0, c1, c2, k x1, k x2, k x3, k x4⟩
    clear hp hn hI hf hD hv hPP hg5
    go_upto_region 4 with fail
    go_cut [8, 9] from 16 (fun s8 s9 wc => ∃ (g8 : Nat) (a8 : Option Addr) (c8 : Nat), s8 = .pointer (some ⟨g8, 0, none⟩) ∧ s9 = .int .i64 PP.2 ∧ w1.heap.size ≤ g8 ∧ Hid (wc.heap[g8]? = some (.cells #[.slice a8 PP.1.fl.length c8, .int .i64 PP.1.gv, .bool PP.1.no] 56 (0, 0))) ∧ Hid (FlAt wc (.slice a8 PP.1.fl.length c8) PP.1.fl) ∧ Hid (Below w1.heap.size w1 wc))
    case first =>
      go_region_held3 (fun w' => w'.cell? ⟨g, 0, none⟩ = some (.slice (some ⟨g5, 0, none⟩) qn c) ∧ w'.cell? ⟨g, 1, none⟩ = some (.int .i64 L.gv) ∧ w'.cell? ⟨g, 2, none⟩ = some (.bool L.no) ∧ w'.cell? ⟨g5, i * 5 + 1, none⟩ = some (.int .i64 p.m.f) ∧ w'.cell? ⟨g5, i * 5 + 2, none⟩ = some (.int .i64 p.m.t) ∧ w'.cell? ⟨g5, i * 5 + 3, none⟩ = some (.string p.m.b) ∧ w'.cell? ⟨g5, i * 5 + 4, none⟩ = some (.bool p.s))
        (first
        | (refine HSW.out _ ?_; repeat (first | exact Below.refl _ _ | exact HB4.out | refine below_drew ?_ | refine ext_alloc ?_ _ | refine ext_set ?_ (by first | exact Nat.le_refl _ | exact HB4.out.size)))
        | go_keep)
        (first
        | (go_at_call 48
           refine (HPP.out w1.drew (below_drew HBW1.out)).mono ?_
           rintro e w4 ⟨v4, rfl, hf4, hb4⟩
           obtain ⟨a4, c4, rfl, _⟩ := fl_form hf4
           have HB4 : Hid (Below w1.heap.size w1 w4) := of_drew hb4
           have HF4 : Hid (FlAt w4 (.slice a4 PP.1.fl.length c4) PP.1.fl) := hf4
           clear hf4 hb4)
        | (go_at_call 48
           refine (HPP.out (w1.drew.alloc (.cells #[.slice none 0 0, .int .i64 0, .bool false] 56)) ((below_drew HBW1.out).alloc HBW1.out.size _)).mono ?_
           rintro e w4 ⟨v4, rfl, hf4, hb4⟩
           obtain ⟨a4, c4, rfl, _⟩ := fl_form hf4
           have hA4 : w4.heap[w1.heap.size]? = some (.cells #[.slice none 0 0, .int .i64 0, .bool false] 56 (0, 0)) := kept_block hb4 (heap_alloc_new w1.drew _)
           have HA4 : Hid _ := hA4
           obtain ⟨q0, q1, q2⟩ := cells_3 hA4
           have f4 := free_of hA4
           have HB4 : Hid (Below w1.heap.size w1 w4) := trans2 ((below_drew (Below.refl _ _)).alloc (Nat.le_refl _) _) hb4
           have HF4 : Hid (FlAt w4 (.slice a4 PP.1.fl.length c4) PP.1.fl) := hf4
           clear hf4 hb4 hA4))
      all_goals
        go_wp2_with fail
        go_meet
      case rel => exact ⟨_, a4, c4, rfl, rfl, HB4.out.size, heap_alloc_new _ _, owns_below HF4.out ((Below.refl _ _).alloc (Nat.le_refl _) _), ext_alloc HB4.out _⟩
      case rel => exact ⟨_, a4, c4, rfl, rfl, Nat.le_refl _, fill_3 HA4.out, row_other HF4.out (chg_put3 w4 w1.heap.size _ _ _) (Kind.one HA4.out) (by decide), ext_set (ext_set (ext_set HB4.out (Nat.le_refl _)) (Nat.le_refl _)) (Nat.le_refl _)⟩
    case rest =>
      obtain ⟨g8, a8, c8, rfl, rfl, hg8, HB8, HF8, HBC⟩ := hcut
      clear d0 d1 d2 r0 r1 r2 f1 x0 x1 x2 x3 x4
      have HBX : Hid (wc.heap[g + 1]? = some (.cells #[.slice none 0 0, .int .i64 0, .bool false] 56 (0, 0))) := kept_block HBC.out HB1.out
      obtain ⟨d0, d1, d2⟩ := cells_3 (kept_block HBC.out HA1.out)
      obtain ⟨r0, r1, r2⟩ := cells_3 HBX.out
      have f1 := free_of HBX.out
      obtain ⟨b0, b1, b2⟩ := cells_3 HB8.out
      have HBT : Hid (Below w.heap.size w wc) := trans2 HBW1.out HBC.out
      by_cases hk : PP.2 < 0
      · have HD2 : Hid ((L, (0 : Int), (46 : Int)) = R) := by have := HD.out; rw [if_pos hk] at this; exact this
        clear hg8
        go_wp2_with fail
        have e := HD2.out
        subst e
        exact bodyPost_ret (results_ctt rfl _ _ (g + 1) 56 _ (0, 0) _ _ _ rfl rfl rfl (fill_3 HBX.out) Try.underlying56 rfl (by kernel_rfl)) rfl ⟨_, rfl, FIN.out _ HBT.out HBX.out⟩
      · have HD2 : Hid ((PP.1, PP.2, (0 : Int)) = R) := by have := HD.out; rw [if_neg hk] at this; exact this
        clear hg8
        go_wp2_with fail
        have e := HD2.out
        subst e
        exact bodyPost_ret (results_ctt rfl _ _ (g + 1) 56 _ (0, 0) _ _ _ rfl rfl rfl (fill_3 HBX.out) Try.underlying56 rfl (by kernel_rfl)) rfl ⟨_, rfl, row_other HF8.out (chg_put3 wc (g + 1) _ _ _) (Kind.one HBX.out) (by decide), fillB_3 HBT.out (by rw [HG.out]; omega)⟩
  · have hD := HR.out
    unfold LnT.dbl at hD
    rw [hf] at hD
    have HD : Hid ((L, (0 : Int), (160 : Int)) = R) := hD
    rw [hI]
    clear hI hf hD
    go_wp2_with fail
    have e := HD.out
    subst e
    exact bodyPost_ret (results_ctt rfl _ _ (g + 1) 56 _ (0, 0) _ _ _ rfl rfl rfl (fill_3 HB1.out) Try.underlying56 rfl (by kernel_rfl)) rfl ⟨_, rfl, FIN.out _ HBW1.out HB1.out⟩
end Go.Proofs.Ytfcobhgjkibdgaa
