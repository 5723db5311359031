/-
  heraldref16: Take.
-/
import Derived.Test.YtfcobhgjkibdgaaLRefD
namespace Go.Proofs.Ytfcobhgjkibdgaa
open Go.RowKit
set_option linter.unusedVariables false
set_option linter.unusedSimpArgs false

/-- One is taken out. -/
def LnT.tak (L : LnT) (n : Int) : LnT × MsT × Int := match fnd L.fl n with
  | none => (L, msZ, 160)
  | some p => (⟨L.fl.filter (fun q => !((q.n : Int) == n)), L.gv, false⟩, p.m, 0)
theorem tak_look (L : LnT) (n : Int) : (L.tak n).2 = lookM L.fl n := by
  unfold LnT.tak lookM
  cases fnd L.fl n <;> rfl
/-- Two boxes are filled. -/
theorem two_put {w0 w : World} {g t t' B e s n : Nat} {x0 x1 x2 y0 y1 y2 z0 z1 z2 u0 u1 u2 v : Value} {xs : List Value} (h : w.heap[g + 1]? = some (.cells #[z0, z1, z2] t (0, 0))) (h' : w.heap[g + 1 + 1]? = some (.cells #[u0, u1, u2] t' (0, 0))) (hr : w.ownsRow B e s v n xs) (hb : Below w0.heap.size w0 w) (hg : w0.heap.size ≤ g) (ht : e ≠ t) (ht' : e ≠ t') :
    (put_3 (put_3 w (g + 1) x0 x1 x2) (g + 1 + 1) y0 y1 y2).heap[g + 1]? = some (.cells #[x0, x1, x2] t (0, 0)) ∧ (put_3 (put_3 w (g + 1) x0 x1 x2) (g + 1 + 1) y0 y1 y2).heap[g + 1 + 1]? = some (.cells #[y0, y1, y2] t' (0, 0)) ∧ (put_3 (put_3 w (g + 1) x0 x1 x2) (g + 1 + 1) y0 y1 y2).drew.ownsRow B e s v n xs ∧ Below w0.heap.size w0 (put_3 (put_3 w (g + 1) x0 x1 x2) (g + 1 + 1) y0 y1 y2).drew := by
  have h2 : (put_3 w (g + 1) x0 x1 x2).heap[g + 1 + 1]? = some (.cells #[u0, u1, u2] t' (0, 0)) := fillO_3 h' (by omega)
  refine ⟨fillO_3 (fill_3 h) (by omega), fill_3 h2, ?_, below_drew (fillB_3 (fillB_3 hb (by omega)) (by omega))⟩
  exact owns_below (row_other (row_other hr (chg_put3 w (g + 1) _ _ _) (Kind.one h) ht) (chg_put3 _ (g + 1 + 1) _ _ _) (Kind.one h2) ht') (below_drew (Below.refl _ _))
set_option maxHeartbeats 6400000 in
set_option maxRecDepth 100000 in
theorem refTake_any (L : LnT) (n : Int) (v : Value) (w : World) (h : FlAt w v L.fl) (hl : L.fl.length ≤ 256) :
    Calls Try.prog 41 #[lnV v L.gv L.no, .int .i64 n] w fun e w' => ∃ v', e = .returned (.tuple #[lnV v' (L.tak n).1.gv (L.tak n).1.no, (L.tak n).2.1.val, .int .i64 (L.tak n).2.2]) ∧ FlAt w' v' (L.tak n).1.fl ∧ Below w.heap.size w w' := by
  obtain ⟨a, c, rfl, _⟩ := fl_form h
  obtain ⟨qn, hqn⟩ : ∃ z, L.fl.length = z := ⟨_, rfl⟩
  have HFL : Hid (FlAt w (.slice a qn c) L.fl) := by rw [← hqn]; exact h
  have HQ : Hid (L.fl.length = qn) := hqn
  rw [hqn] at hl ⊢
  obtain ⟨hA, hB, hM, hbel⟩ := three_blocks (w := w) (t := 56) (cs := #[.slice a qn c, .int .i64 L.gv, .bool L.no]) (t' := 56) (cs' := #[.slice none 0 0, .int .i64 0, .bool false]) (t'' := 23) (cs'' := #[.int .i64 0, .int .i64 0, .string ⟨#[]⟩])
  obtain ⟨W, hW⟩ : ∃ W, (((w.alloc (.cells #[.slice a qn c, .int .i64 L.gv, .bool L.no] 56)).alloc (.cells #[.slice none 0 0, .int .i64 0, .bool false] 56)).alloc (.cells #[.int .i64 0, .int .i64 0, .string ⟨#[]⟩] 23)) = W := ⟨_, rfl⟩
  rw [hW] at hA hB hM hbel
  obtain ⟨g, hg⟩ : ∃ g, w.heap.size = g := ⟨_, rfl⟩
  have HBW : Hid (Below w.heap.size w W) := hbel
  rw [hg] at hA hB hM
  have HG : Hid (w.heap.size = g) := hg
  have HW : Hid (_ = W) := hW
  have HA : Hid (W.heap[g]? = some (.cells #[.slice a qn c, .int .i64 L.gv, .bool L.no] 56 (0, 0))) := hA
  have HB : Hid (W.heap[g + 1]? = some (.cells #[.slice none 0 0, .int .i64 0, .bool false] 56 (0, 0))) := hB
  have HM : Hid (W.heap[g + 1 + 1]? = some (.cells #[.int .i64 0, .int .i64 0, .string ⟨#[]⟩] 23 (0, 0))) := hM
  have HF : Hid (∀ w', Below w.heap.size w w' → _) := fun w' hb => refLook_any L.fl L.gv L.no n (.slice a qn c) w' (owns_below HFL.out hb) (by rw [HQ.out]; exact hl)
  obtain ⟨c0, c1, c2⟩ := cells_3 hA
  have hcase := fnd_cases L.fl n
  obtain ⟨R, hR⟩ : ∃ R, L.tak n = R := ⟨_, rfl⟩
  have HR : Hid (L.tak n = R) := hR
  rw [hR]
  obtain ⟨M, hM'⟩ : ∃ M, lookM L.fl n = M := ⟨_, rfl⟩
  rw [hM'] at HF
  clear hW hA hB hM hbel hqn h hg hR
  go_enter Try.func41, Try.ntmps41
  go_upto_region 1 with fail
  rw [HW.out, HG.out]
  go_wp2_with fail
  refine Calls.mono (HF.out _ HBW.out) ?_
  rintro e w1 ⟨rfl, hb1⟩
  obtain ⟨g7, hg7⟩ : ∃ z, w1.heap.size = z := ⟨_, rfl⟩
  obtain ⟨W2, hW2⟩ : ∃ z, w1.alloc (.cells #[.int .i64 M.1.f, .int .i64 M.1.t, .string M.1.b] 23) = z := ⟨_, rfl⟩
  have hb2 : Below w1.heap.size w1 W2 := by rw [← hW2]; exact (Below.refl _ _).alloc (Nat.le_refl _) _
  have HX : Hid (W2.heap[g7]? = some (.cells #[.int .i64 M.1.f, .int .i64 M.1.t, .string M.1.b] 23 (0, 0))) := by show _ = _; rw [← hW2, ← hg7]; exact heap_alloc_new _ _
  have HBW2 : Hid (Below w.heap.size w W2) := trans2 (trans2 HBW.out hb1) hb2
  have HWW : Hid (Below W.heap.size W W2) := trans2 hb1 hb2
  have HW2 : Hid (_ = W2) := hW2
  have HG7 : Hid (w1.heap.size = g7 ∧ g + 1 + 1 < g7) := ⟨hg7, by have := lt_of_blk HM.out; have := hb1.size; omega⟩
  clear hb1 hb2 hW2 hg7 c0 c1 c2
  go_upto_region 2 with fail
  rw [HW2.out, HG7.out.1]
  have HA2 : Hid (W2.heap[g]? = some (.cells #[.slice a qn c, .int .i64 L.gv, .bool L.no] 56 (0, 0))) := kept_block HWW.out HA.out
  have HB2 : Hid (W2.heap[g + 1]? = some (.cells #[.slice none 0 0, .int .i64 0, .bool false] 56 (0, 0))) := kept_block HWW.out HB.out
  have HM2 : Hid (W2.heap[g + 1 + 1]? = some (.cells #[.int .i64 0, .int .i64 0, .string ⟨#[]⟩] 23 (0, 0))) := kept_block HWW.out HM.out
  obtain ⟨c0, c1, c2⟩ := cells_3 HA2.out
  obtain ⟨r0, r1, r2⟩ := cells_3 HB2.out
  obtain ⟨s0, s1, s2⟩ := cells_3 HM2.out
  obtain ⟨y0, y1, y2⟩ := cells_3 HX.out
  have fr := free_of HB2.out
  have fs := free_of HM2.out
  have hgg : g + 1 + 1 < g7 := HG7.out.2
  rcases hcase with ⟨i, p, hp, hn, hI, hf, _⟩ | ⟨hI, hf, _⟩
  · have hD := HR.out
    unfold LnT.tak at hD
    rw [hf] at hD
    unfold lookM at hM'
    rw [hf] at hM'
    subst hM'
    have HD : Hid ((⟨L.fl.filter (fun q => !((q.n : Int) == n)), L.gv, false⟩, p.m, 0) = R) := hD
    clear hD hp hn hI hf
    go_upto_region 5 with fail
    obtain ⟨g9, hg9⟩ : ∃ z, W2.heap.size = z := ⟨_, rfl⟩
    obtain ⟨W3, hW3⟩ : ∃ z, W2.alloc (.cells #[.slice none 0 0, .int .i64 L.gv, .bool false] 56) = z := ⟨_, rfl⟩
    have hA3 : W3.heap[g9]? = some (.cells #[.slice none 0 0, .int .i64 L.gv, .bool false] 56 (0, 0)) := by rw [← hW3, ← hg9]; exact heap_alloc_new _ _
    have hb3 : Below W2.heap.size W2 W3 := by rw [← hW3]; exact (Below.refl _ _).alloc (Nat.le_refl _) _
    rw [hW3, hg9]
    have HG9 : Hid (W2.heap.size = g9) := hg9
    have HP0 : Hid (MkP W2 W3 g9 L.gv false (.slice none 0 0) []) := ⟨owns_nil _ _ _ _, hA3, hb3⟩
    clear hA3 hb3 hW3 hg9 c0 c1 c2 r0 r1 r2 s0 s1 s2 y0 y1 y2 fr fs
    go_wp2_with fail
    go_loopw [10] (fun i wr => ∃ (j : Nat) (na : Option Addr) (nc : Nat), i = .int .i64 j ∧ j ≤ qn ∧ Hid (MkP W2 wr g9 L.gv false (.slice na ((L.fl.take j).filter (fun q => !((q.n : Int) == n))).length nc) ((L.fl.take j).filter (fun q => !((q.n : Int) == n))))) (fun i _ => qn - (intOf i).toNat)
    case atStart => exact ⟨0, none, 0, rfl, Nat.zero_le _, HP0⟩
    case round =>
      obtain ⟨j, na, nc, rfl, hj, HP⟩ := hrel
      obtain ⟨fl, hfl⟩ : ∃ z, (L.fl.take j).filter (fun q => !((q.n : Int) == n)) = z := ⟨_, rfl⟩
      obtain ⟨fn, hfn⟩ : ∃ z, fl.length = z := ⟨_, rfl⟩
      rw [hfl, hfn] at HP
      have hfn2 : fn ≤ j := by rw [← hfn, ← hfl]; exact Nat.le_trans (List.length_filter_le _ _) (by rw [List.length_take]; omega)
      have HFN : Hid (fl.length = fn) := hfn
      have hbr := HP.out.below
      obtain ⟨c0, c1, c2⟩ := cells_3 (kept_block hbr HA2.out)
      obtain ⟨n0, n1, n2⟩ := cells_3 HP.out.box
      have fb := free_of HP.out.box
      by_cases hjl : j < qn
      · have hji : (j : Int) < (qn : Int) := by omega
        obtain ⟨x, hx⟩ : ∃ x, L.fl[j]? = some x := ⟨L.fl[j]'(by rw [HQ.out]; exact hjl), List.getElem?_eq_getElem _⟩
        obtain ⟨b5, cc, hv, hb5, x0, x1, x2, x3, x4⟩ := fl_get (owns_below HFL.out (trans2 HBW2.out hbr)) hx
        obtain ⟨rfl, rfl⟩ : a = some ⟨b5, 0, none⟩ ∧ c = cc := by simp only [Value.slice.injEq] at hv; exact ⟨hv.1, hv.2.2⟩
        by_cases hne : (x.n : Int) = n
        · have hee : ((x.n : Int) != n) = false := by simpa using hne
          have HT2 : Hid ((L.fl.take (j + 1)).filter (fun q => !((q.n : Int) == n)) = fl) := by show _ = _; rw [take_at hx, List.filter_append, hfl]; simp [hne]
          clear hx hb5 hbr hv hne hfl hfn
          go_wp2_with fail
          go_roundw
          case rel => exact ⟨j + 1, na, nc, by go_num, by omega, by rw [HT2.out, HFN.out]; exact HP⟩
          case measure => simp [intOf]; omega
        · have hee : ((x.n : Int) != n) = true := by simpa using hne
          have HT2 : Hid ((L.fl.take (j + 1)).filter (fun q => !((q.n : Int) == n)) = fl ++ [x]) := by show _ = _; rw [take_at hx, List.filter_append, hfl]; simp [hne]
          have hby : (fn + 1) * 48 ≤ 140737488355328 := by omega
          have hold : ∀ ob o, (wr.alloc ob).cell? ⟨g9, o, none⟩ = wr.cell? ⟨g9, o, none⟩ := fun ob o => ((Below.refl wr.heap.size wr).alloc (Nat.le_refl _) ob).cell (p := ⟨g9, o, none⟩) (lt_of_blk HP.out.box)
          clear hx hb5 hbr hv hne hfl hfn
          go_wp2_with fail
          go_region_law
            (first
            | (refine step_row Try.underlying54 Try.info_pc rfl (by decide) rfl (.tmp 41) (.tmp 47) rfl (W2.heap.size + 1) (.slice na fn nc) fn (fl.flatMap PcT.cells) (by simp [Act.eval, Act.put]) (by have h9 := HP.out.row; rw [HFN.out] at h9; exact owns_below h9 ((below_drew (Below.refl _ _)).alloc (Nat.le_refl _) _)) wr.heap.size 1 x.cells (by simp [Act.eval, Act.put]) (heap_alloc_new wr.drew _) rfl (by simp [Value.oneCell']) (by unfold maxLen; omega) hby (by have h1 := lt_of_blk HP.out.box; have h2 := HG9.out; show W2.heap.size + 1 ≤ (wr.drew.alloc _).heap.size; rw [World.size_alloc]; show _ ≤ wr.heap.size + 1; omega) ?_
               intro v5 w5 hd5 hg5 ho5
               have hal : Below wr.heap.size wr (wr.drew.alloc (.cells x.cells.toArray 97)) := (below_drew (Below.refl _ _)).alloc (Nat.le_refl _) _
               obtain ⟨sa, sc, hv5, _⟩ := row_form hd5
               subst hv5
               have HM5 : Hid (MkP W2 (w5.setCell ⟨g9, 0, none⟩ (.slice sa (fn + 1) sc)) g9 L.gv false (.slice sa (fn + 1) sc) (fl ++ [x])) := (HP.out.at hal).push (t := x) HG9.out.symm (by rw [HFN.out]; exact hd5) hg5
               have hbx5 : w5.heap[g9]? = some (.cells #[.slice na fn nc, .int .i64 L.gv, .bool false] 56 (0, 0)) := by
                 rw [(Chg.grown hg5).block g9 (Nat.lt_of_lt_of_le (lt_of_blk HP.out.box) hal.size) (fun e => by have h2 := (row_block HP.out.row g9 e).1; have h3 := HG9.out; omega)]
                 exact kept_block hal HP.out.box
               obtain ⟨d0, d1, d2⟩ := cells_3 hbx5
               have fb5 := free_of hbx5
               clear hd5 hg5 ho5 hal hbx5)
            | fail)
          all_goals
            go_wp2_with fail
            exact ⟨⟨j + 1, sa, sc, by simp, by omega, by rw [HT2.out, List.length_append, HFN.out]; exact HM5⟩, by simp [intOf]; omega⟩
      · obtain rfl : j = qn := by omega
        have hge : ¬ (j : Int) < (j : Int) := by omega
        have HTA : Hid (L.fl.filter (fun q => !((q.n : Int) == n)) = fl) := by show _ = _; rw [← hfl, List.take_of_length_le (by rw [HQ.out]; exact Nat.le_refl _)]
        obtain ⟨y0, y1, y2⟩ := cells_3 (kept_block hbr HX.out)
        have hB5 := kept_block hbr HB2.out
        have hM5 := kept_block hbr HM2.out
        obtain ⟨r0, r1, r2⟩ := cells_3 hB5
        obtain ⟨s0, s1, s2⟩ := cells_3 hM5
        have fr := free_of hB5
        have fs := free_of hM5
        have HB5 : Hid (wr.heap[g + 1]? = some (.cells #[.slice none 0 0, .int .i64 0, .bool false] 56 (0, 0))) := hB5
        have HM5 : Hid (wr.heap[g + 1 + 1]? = some (.cells #[.int .i64 0, .int .i64 0, .string ⟨#[]⟩] 23 (0, 0))) := hM5
        have HBR : Hid (Below w.heap.size w wr) := trans2 HBW2.out hbr
        have hgx : g7 < g9 := by have := lt_of_blk HX.out; have := HG9.out; omega
        clear hbr hB5 hM5 hfl hfn
        go_wp2_with fail
        go_region
        go_wp2_with fail
        have e := HD.out
        subst e
        have hrow : FlAt wr (.slice na fn nc) (L.fl.filter (fun q => !((q.n : Int) == n))) := by
          rw [HTA.out]
          have h9 := HP.out.row
          refine ⟨h9.1, ?_⟩
          rcases h9.2 with h | ⟨g', cap', cur, hv, hb, hr⟩
          · exact .inl (by rw [HFN.out] at h ⊢; exact h)
          · exact .inr ⟨g', cap', cur, hv, Nat.zero_le _, hr⟩
        have hp := two_put (x0 := .slice na fn nc) (x1 := .int .i64 L.gv) (x2 := .bool false) (y0 := .int .i64 p.m.f) (y1 := .int .i64 p.m.t) (y2 := .string p.m.b) HB5.out HM5.out hrow HBR.out (by rw [HG.out]; omega) (by decide) (by decide)
        exact bodyPost_ret (results_cct rfl _ _ (g + 1) (g + 1 + 1) 56 23 _ _ (0, 0) (0, 0) _ _ _ rfl rfl rfl ((heap_drew_at _ _).trans hp.1) ((heap_drew_at _ _).trans hp.2.1) Try.underlying56 rfl (by kernel_rfl) Try.underlying23 rfl (by kernel_rfl)) rfl ⟨_, rfl, hp.2.2.1, hp.2.2.2⟩
  · have hD := HR.out
    unfold LnT.tak at hD
    rw [hf] at hD
    unfold lookM at hM'
    rw [hf] at hM'
    subst hM'
    have HD : Hid ((L, msZ, (160 : Int)) = R) := hD
    clear hD hI hf
    go_wp2_with fail
    go_region
    go_wp2_with fail
    have e := HD.out
    subst e
    have hp := two_put (x0 := .slice a qn c) (x1 := .int .i64 L.gv) (x2 := .bool L.no) (y0 := .int .i64 msZ.f) (y1 := .int .i64 msZ.t) (y2 := .string msZ.b) HB2.out HM2.out (owns_below HFL.out HBW2.out) HBW2.out (by rw [HG.out]; omega) (by decide) (by decide)
    exact bodyPost_ret (results_cct rfl _ _ (g + 1) (g + 1 + 1) 56 23 _ _ (0, 0) (0, 0) _ _ _ rfl rfl rfl ((heap_drew_at _ _).trans hp.1) ((heap_drew_at _ _).trans hp.2.1) Try.underlying56 rfl (by kernel_rfl) Try.underlying23 rfl (by kernel_rfl)) rfl ⟨_, rfl, hp.2.2.1, hp.2.2.2⟩
end Go.Proofs.Ytfcobhgjkibdgaa
