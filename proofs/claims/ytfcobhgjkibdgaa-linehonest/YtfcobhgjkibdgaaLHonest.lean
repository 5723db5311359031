/-
  heraldlaw16: LineHonest.
-/
import Derived.Test.YtfcobhgjkibdgaaLHonU
import Derived.Test.YtfcobhgjkibdgaaLScript
import Derived.Test.YtfcobhgjkibdgaaLOnly
namespace Go.Proofs.Ytfcobhgjkibdgaa
open Go.RowKit
set_option linter.unusedVariables false
set_option linter.unusedSimpArgs false

theorem snK_nil (S : Nat) : ∀ j, SnK S (.slice none 0 0) (.slice none 0 0) (.slice none 0 0) j → j = S := fun j hj => by
  rcases hj with e | e | e | e
  · exact e
  all_goals cases e
/-- A call at a guarded step. -/
theorem step_callx {P : Program} {ops : Array Oper} {o : Oper} {a : Act} {w : World} {K : Act → World → Prop} {Q : Exit → Act → World → Prop} {E : Prop} (hw : Region.wanted o (yielded ops a.tmps) = true) (f : FuncId) (xs : List Operand) (ts : Array TypeId)
    (ho : o.op = .call { callee := .value (.func f), args := xs.toArray, argTypes := ts }) (ef : ∀ args w, (callFunc f args).run P w = .ok (.enter f args) w) (us : List Value) (hx : xs.map a.eval = us) {R : Ending → World → Prop} (hc : Calls P f us.toArray w R)
    (h : ∀ e w', R e w' → ∃ r, e = .returned r ∧ K (a.put o.dst r) w') :
    if Region.wanted o (yielded ops a.tmps) = true then Oper.wp P o a w K Q else E := by
  rw [if_pos hw]
  have he : (execOp a.eval o).run P w = .ok (.enter f us.toArray) w := by
    have hf : a.eval (.func f) = .func (.func f) #[] #[] := rfl
    simp [execOp, ho, resolve, invoke, Deferred.ofValue, hx, hf, ef]
  unfold Oper.wp
  rw [he, Oper.upon_enter]
  refine hc.mono ?_
  intro e w' hR
  obtain ⟨r, rfl, hk⟩ := h e w' hR
  exact hk
theorem sstep_any {At : World → (Nat → Prop) → LnT → Value → Prop} (sv : Lines At) (w0 w : World) (K : Nat → Prop) (L : LnT) (p : Value) (S : Nat) (nv mv gv : Value) (xs : List SnX) (s : StL) (u : Value) (P : Nat → Prop) (h : HoI At w0 w K L p S nv mv gv xs) (hon : Hon L xs) (hl : xs.length + 300 ≤ 1000000) (hms : MssAt w P u s.ms) (hw : (Lit.int .i64 s.n).wf = true) :
    Calls Try.prog 18 #[.pointer (some ⟨S, 0, none⟩), p, s.val u] w fun e w' => e = .returned (.bool true) ∧ ∃ K' nv' mv' gv' xs', HoI At w0 w' K' (L.step s) p S nv' mv' gv' xs' ∧ Hon (L.step s) xs' ∧ xs'.length ≤ xs.length + 300 := by
  have hgm : L.gv + 300 ≤ MaxG := by rw [hon.gv]; unfold MaxG; omega
  obtain ⟨ma, mc, rfl, _⟩ := RowAt.form hms
  obtain ⟨kind, on, ms, n, a, t⟩ := s
  by_cases h1 : kind = 1
  · subst h1
    have e : LnT.step L ⟨1, on, ms, n, a, t⟩ = (L.send (shL ms)).1 := rfl
    rw [e]
    exact sstep_send sv w0 w K L p S nv mv gv xs on n a t ms ma _ mc h hon hl hgm P hms
  by_cases h2 : kind = 2
  · subst h2
    have e : LnT.step L ⟨2, on, ms, n, a, t⟩ = (L.tak n).1 := rfl
    rw [e]
    exact sstep_take sv w0 w K L p S nv mv gv xs on n a t ms ma _ mc h hon hl hw
  by_cases h3 : kind = 3
  · subst h3
    have e : LnT.step L ⟨3, on, ms, n, a, t⟩ = (L.dbl n).1 := rfl
    rw [e]
    exact sstep_double sv w0 w K L p S nv mv gv xs on n a t ms ma _ mc h hon hl hgm hw
  by_cases h4 : kind = 4
  · subst h4
    have e : LnT.step L ⟨4, on, ms, n, a, t⟩ = (L.spl n a t).1 := rfl
    rw [e]
    exact sstep_spoil sv w0 w K L p S nv mv gv xs on n a t ms ma _ mc h hon hl hw
  have e : LnT.step L ⟨kind, on, ms, n, a, t⟩ = L := by
    unfold LnT.step
    rw [if_neg h1, if_neg h2, if_neg h3, if_neg h4]
  rw [e]
  exact sstep_else sv w0 w K L p S nv mv gv xs kind on n a t ms ma _ mc h hon hl (by omega)
set_option maxHeartbeats 6400000 in
set_option maxRecDepth 100000 in
theorem LineHonest_walk {At : World → (Nat → Prop) → LnT → Value → Prop} (sv : Lines At) (v : Value) (l : List StL) (w : World) (hl : StsAt w (fun b => b < w.heap.size) v l) (hwf : ∀ x ∈ l, (Lit.int .i64 x.n).wf = true) :
    Calls Try.prog 4 #[v] w fun e w' => e = .returned (.bool true) ∧ Below w.heap.size w w' := by
  obtain ⟨sa, sc, rfl, _⟩ := RowAt.form hl
  obtain ⟨sn, hsn⟩ : ∃ z, l.length = z := ⟨_, rfl⟩
  rw [hsn] at hl ⊢
  have HSN : Hid (l.length = sn) := hsn
  have HL : Hid (StsAt w (fun b => b < w.heap.size) (.slice sa sn sc) l) := hl
  have HKN : Hid (∀ w', _) := fun w' => known_any sv w'
  have HWF : Hid (∀ x ∈ l, (Lit.int .i64 x.n).wf = true) := hwf
  clear hsn hl hwf
  go_enter Try.func4, Try.ntmps4
  go_wp2_with fail
  refine Calls.mono (sv.new w) ?_
  rintro e w1 ⟨b, K1, rfl, h1, hb1, hn1⟩
  obtain ⟨W2, hW2⟩ : ∃ z, w1.alloc (.cells #[.slice none 0 0, .slice none 0 0, .slice none 0 0] 44) = z := ⟨_, rfl⟩
  obtain ⟨S, hS⟩ : ∃ z, w1.heap.size = z := ⟨_, rfl⟩
  have hb2 : Below w1.heap.size w1 W2 := by rw [← hW2]; exact (Below.refl _ _).alloc (Nat.le_refl _) _
  have hX2 : W2.heap[S]? = some (.cells #[.slice none 0 0, .slice none 0 0, .slice none 0 0] 44 (0, 0)) := by rw [← hW2, ← hS]; exact heap_alloc_new _ _
  have hSK := snK_nil S
  have HI0 : Hid (HoI At w W2 K1 ln0 (.pointer (some ⟨b, 0, none⟩)) S (.slice none 0 0) (.slice none 0 0) (.slice none 0 0) []) :=
    ⟨sv.keep h1 (Kp.of_below hb2 _), ok0, ⟨hX2, owns_nil _ _ _ _, owns_nil _ _ _ _, owns_nil _ _ _ _⟩, fun j hj hk => by have h2 := hSK j hj; have h3 := sv.lt h1 j hk; omega, hn1, fun j hj => by have h2 := hSK j hj; have h3 := hb1.size; omega, trans2 hb1 hb2⟩
  have HW2 : Hid (_ = W2) := hW2
  have HS : Hid (w1.heap.size = S) := hS
  clear h1 hb1 hn1 hW2 hS hb2 hX2 hSK
  go_upto_region 5 with fail
  rw [HW2.out, HS.out]
  go_wp2_with fail
  go_loopw [5, 6, 7, 8, 9, 10, 11] (fun i _ _ _ _ _ _ wr => ∃ (q : Nat) (K : Nat → Prop) (nv mv gv : Value) (ys : List SnX), i = .int .i64 q ∧ q ≤ sn ∧ q ≤ 120 ∧ ys.length ≤ 300 * q ∧ Hid (HoI At w wr K (runL ln0 (l.take q)) (.pointer (some ⟨b, 0, none⟩)) S nv mv gv ys) ∧ Hid (Hon (runL ln0 (l.take q)) ys)) (fun i _ _ _ _ _ _ _ => sn - (intOf i).toNat)
  case atStart => exact ⟨0, K1, _, _, _, [], rfl, Nat.zero_le _, Nat.zero_le _, Nat.zero_le _, HI0, hon0⟩
  case round =>
    obtain ⟨q, K, nv, mv, gv, ys, rfl, hq, hq1, hys, HI, HO⟩ := hrel
    by_cases hlt : q < sn
    · have hqi : (q : Int) < (sn : Int) := by omega
      by_cases h120 : q < 120
      · have hqj : (q : Int) < 120 := by omega
        obtain ⟨s, hs⟩ : ∃ s, l[q]? = some s := ⟨l[q]'(by rw [HSN.out]; exact hlt), List.getElem?_eq_getElem _⟩
        obtain ⟨sb, so, rfl, hsb, _, mvv, hE⟩ := RowAt.get HL.out hs
        obtain ⟨L, hL⟩ : ∃ z, runL ln0 (l.take q) = z := ⟨_, rfl⟩
        rw [hL] at HI HO
        obtain ⟨ma, mc, rfl, _⟩ := RowAt.form hE.ms
        obtain ⟨mn, hmn⟩ : ∃ z, s.ms.length = z := ⟨_, rfl⟩
        rw [hmn] at hE
        have ks : ∀ {o v}, w.cell? ⟨sb, o, none⟩ = some v → wr.cell? ⟨sb, o, none⟩ = some v := fun hv => by rw [HI.out.below.cell (p := ⟨sb, _, none⟩) hsb]; exact hv
        have s0 := ks hE.kind
        have s1 := ks hE.on
        have s2 := ks hE.cu
        have s3 := ks hE.n
        have s4 := ks hE.a
        have s5 := ks hE.t
        have HST : Hid _ := sstep_any sv w wr K L (.pointer (some ⟨b, 0, none⟩)) S nv mv gv ys s (.slice ma mn mc) (fun b => b < w.heap.size) HI.out HO.out (by omega) (MssAt.keep hE.ms (Kp.of_below HI.out.below _)) (HWF.out s (List.mem_of_getElem? hs))
        have HN : Hid (runL ln0 (l.take (q + 1)) = L.step s) := by show _ = _; rw [take_at hs, runL_snoc, hL]
        obtain ⟨L2, hL2⟩ : ∃ z, L.step s = z := ⟨_, rfl⟩
        rw [hL2] at HST HN
        clear hs hL hE hmn hL2 hsb ks
        go_wp2_with fail
        refine Calls.mono HST.out ?_
        rintro e w4 ⟨rfl, K4, nv4, mv4, gv4, zs, hI4, hO4, hzs⟩
        have HI4 : Hid (HoI At w w4 K4 L2 (.pointer (some ⟨b, 0, none⟩)) S nv4 mv4 gv4 zs) := hI4
        have HO4 : Hid (Hon L2 zs) := hO4
        have hzl : zs.length ≤ 300 * (q + 1) := by omega
        clear hI4 hO4 hzs hys s0 s1 s2 s3 s4 s5
        have HNB : Hid _ := sv.numbers w4 K4 L2 (.pointer (some ⟨b, 0, none⟩)) HI4.out.at' HI4.out.ok
        go_wp2_with fail
        refine Calls.mono HNB.out ?_
        rintro e w5 ⟨u5, K5, rfl, hu5, hk5, hE5⟩
        obtain ⟨ua, uc, rfl, _⟩ := row_form hu5
        obtain ⟨un, hun⟩ : ∃ z, L2.fl.length = z := ⟨_, rfl⟩
        have HQM : Hid ((L2.fl.map fun p => (p.n : Int)).length = un) := by show _ = _; rw [List.length_map, hun]
        rw [HQM.out]
        have HUN : Hid (L2.fl.length = un) := hun
        have hu256 : un ≤ 256 := by rw [← hun]; exact HI4.out.ok.len
        have HU5 : Hid (InsOwn w5 w4.heap.size (.slice ua un uc) (L2.fl.map fun p => (p.n : Int)) ∧ ∀ j, (Value.slice ua un uc).ownBlock = some j → ¬ K5 j) := by rw [← HQM.out]; exact ⟨hu5, hk5⟩
        have HI5 : Hid (HoI At w w5 K5 L2 (.pointer (some ⟨b, 0, none⟩)) S nv4 mv4 gv4 zs) := HI4.out.call hE5 HI4.out.ok
        have HLV : Hid _ := live_any S nv4 mv4 gv4 zs w5 HI5.out.sn (by omega)
        rw [HO4.out.live, hun] at HLV
        have hui : ¬ (256 : Int) < (un : Int) := by omega
        clear hu5 hk5 hE5 hun
        go_wp2_with (first
          | (go_at_call 20; refine Calls.mono HLV.out ?_; rintro e w' ⟨rfl, hw'⟩; have hw2 := hw'.symm; subst hw2)
          | fail)
        obtain ⟨wo, hwo⟩ : ∃ x, x = wr := ⟨wr, rfl⟩
        subst hwo
        go_loopw [8, 9, 10, 11] (fun k _ _ _ wk => ∃ (j : Nat) (K6 : Nat → Prop), k = .int .i64 j ∧ j ≤ un ∧ Hid (HoI At w wk K6 L2 (.pointer (some ⟨b, 0, none⟩)) S nv4 mv4 gv4 zs) ∧ Hid (InsOwn wk 0 (.slice ua un uc) (L2.fl.map fun p => (p.n : Int)) ∧ ∀ j, (Value.slice ua un uc).ownBlock = some j → ¬ K6 j)) (fun k _ _ _ _ => un - (intOf k).toNat)
        case atStart => exact ⟨0, K5, rfl, Nat.zero_le _, HI5, ⟨HU5.out.1.1, HU5.out.1.2.elim .inl (fun ⟨a, b, c, d, _, e⟩ => .inr ⟨a, b, c, d, Nat.zero_le _, e⟩)⟩, HU5.out.2⟩
        case round =>
          obtain ⟨j, K6, rfl, hj, HI6, HU6⟩ := hrel
          by_cases hjl : j < un
          · have hji : (j : Int) < (un : Int) := by omega
            obtain ⟨pc, hpc⟩ : ∃ pc, L2.fl[j]? = some pc := ⟨L2.fl[j]'(by rw [HUN.out]; exact hjl), List.getElem?_eq_getElem _⟩
            obtain ⟨ub, cur, hua, _, hnc⟩ := row_get1 (i := j) (x := .int .i64 (pc.n : Int)) (by have h9 := HU6.out.1; unfold InsOwn at h9; rw [HQM.out] at h9; exact h9) (by rw [List.getElem?_map, List.getElem?_map, hpc]; rfl)
            subst hua
            have hfd : fnd L2.fl (pc.n : Int) = some pc := by
              rcases fnd_cases L2.fl (pc.n : Int) with ⟨i', p', hp', hn', _, hf', hb'⟩ | ⟨_, _, hno⟩
              · have e : i' = j := by
                  have hr := HI6.out.ok.rise
                  rw [List.pairwise_iff_getElem] at hr
                  obtain ⟨h1, h2⟩ := List.getElem?_eq_some_iff.1 hp'
                  obtain ⟨h3, h4⟩ := List.getElem?_eq_some_iff.1 hpc
                  rcases Nat.lt_trichotomy i' j with h | h | h
                  · have h5 := hr i' j h1 h3 h; rw [h2, h4] at h5; omega
                  · exact h
                  · have h5 := hr j i' h3 h1 h; rw [h2, h4] at h5; omega
                subst e
                rw [hpc] at hp'
                cases hp'
                exact hf'
              · exact absurd rfl (hno j pc hpc)
            obtain ⟨i, x, hn, hpn, hx, hxb, hnr, hns⟩ := HO4.out.at hfd
            have hil := (List.getElem?_eq_some_iff.1 hx).1
            have hlk : lookM L2.fl (pc.n : Int) = (pc.m, 0) := by unfold lookM; rw [hfd]
            have HFN : Hid _ := sfind_any S nv4 mv4 gv4 zs (pc.n : Int) wr HI6.out.sn (by omega)
            rw [hn, findN_at hil, ← hn] at HFN
            have HLK : Hid _ := sv.look wr K6 L2 (.pointer (some ⟨b, 0, none⟩)) (pc.n : Int) HI6.out.at' HI6.out.ok (WalkArith.wf_i64 (by have h7 := (HI6.out.ok.top pc (List.mem_of_getElem? hpc)).2; have h8 := HO4.out.gv; omega))
            rw [hlk] at HLK
            have HXI : Hid (zs[i]? = some x ∧ x.2 = false ∧ Near pc.m x.1 ∧ pc.m.b.size ≤ 1000000) := ⟨hx, hxb, hnr, Nat.le_trans (HI6.out.ok.small pc (List.mem_of_getElem? hpc)) (by decide)⟩
            have hprev : 0 < j → ∃ pb : PcT, wr.cell? ⟨ub, j - 1, none⟩ = some (.int .i64 (pb.n : Int)) ∧ pb.n < pc.n := fun h0 => by
              have hj1 : j - 1 < L2.fl.length := by rw [HUN.out]; omega
              obtain ⟨_, _, he, _, hc1⟩ := row_get1 (i := j - 1) (x := .int .i64 ((L2.fl[j - 1]'hj1).n : Int)) (by have h9 := HU6.out.1; unfold InsOwn at h9; rw [HQM.out] at h9; exact h9) (by rw [List.getElem?_map, List.getElem?_map, List.getElem?_eq_getElem hj1]; rfl)
              cases he
              refine ⟨_, hc1, ?_⟩
              have hr := HI6.out.ok.rise
              rw [List.pairwise_iff_getElem] at hr
              obtain ⟨h3, h4⟩ := List.getElem?_eq_some_iff.1 hpc
              have h5 := hr (j - 1) j hj1 h3 (by omega)
              rw [h4] at h5
              exact h5
            have HPV : Hid (0 < j → ∃ pb : PcT, wr.cell? ⟨ub, j - 1, none⟩ = some (.int .i64 (pb.n : Int)) ∧ pb.n < pc.n) := hprev
            have HUB : Hid (ub < wr.heap.size ∧ ¬ K6 ub) := ⟨(row_block HU6.out.1 ub rfl).2, HU6.out.2 ub rfl⟩
            have hil2 : (i : Int) < (zs.length : Int) := by omega
            have hi0 : ¬ (i : Int) < 0 := by omega
            clear hpc hfd hn hpn hx hxb hnr hns hil hlk hprev
            go_wp2_with (first
              | (go_at_call 21; refine Calls.mono HFN.out ?_; rintro e w' ⟨rfl, hw'⟩; have hw2 := hw'.symm; subst hw2)
              | fail)
            refine Calls.mono HLK.out ?_
            rintro e w7 ⟨K7, rfl, hE7⟩
            obtain ⟨W8, hW8⟩ : ∃ z, w7.alloc (.cells #[.int .i64 pc.m.f, .int .i64 pc.m.t, .string pc.m.b] 23) = z := ⟨_, rfl⟩
            obtain ⟨g8, hg8⟩ : ∃ z, w7.heap.size = z := ⟨_, rfl⟩
            have hb8 : Below w7.heap.size w7 W8 := by rw [← hW8]; exact (Below.refl _ _).alloc (Nat.le_refl _) _
            have HX8 : Hid (W8.heap[g8]? = some (.cells #[.int .i64 pc.m.f, .int .i64 pc.m.t, .string pc.m.b] 23 (0, 0))) := by show _ = _; rw [← hW8, ← hg8]; exact heap_alloc_new _ _
            have HI8 : Hid (HoI At w W8 K7 L2 (.pointer (some ⟨b, 0, none⟩)) S nv4 mv4 gv4 zs) := (HI6.out.call hE7 HI6.out.ok).at sv hb8
            have HU8 : Hid (InsOwn W8 0 (.slice (some ⟨ub, 0, none⟩) un uc) (L2.fl.map fun p => (p.n : Int)) ∧ ∀ j, (Value.slice (some ⟨ub, 0, none⟩) un uc).ownBlock = some j → ¬ K7 j) := ⟨owns_below (row_chg HU6.out.1 hE7.chg (fun j hj => HU6.out.2 j hj)) hb8, fun j hj hk => (hE7.new j hk).elim (HU6.out.2 j hj) (fun e => by have := (row_block HU6.out.1 j hj).2; omega)⟩
            have hub8 : ∀ o v, wr.cell? ⟨ub, o, none⟩ = some v → W8.cell? ⟨ub, o, none⟩ = some v := fun o v hv => by
              rw [hb8.cell (p := ⟨ub, o, none⟩) (Nat.lt_of_lt_of_le HUB.out.1 hE7.chg.size), World.cell?_of_block (w := wr) (hE7.chg.block ub HUB.out.1 HUB.out.2)]
              exact hv
            have HPV8 : Hid (0 < j → ∃ pb : PcT, W8.cell? ⟨ub, j - 1, none⟩ = some (.int .i64 (pb.n : Int)) ∧ pb.n < pc.n) := fun h0 => by
              obtain ⟨pb, h1, h2⟩ := HPV.out h0
              exact ⟨pb, hub8 _ _ h1, h2⟩
            have HNC8 : Hid (W8.cell? ⟨ub, j, none⟩ = some (.int .i64 (pc.n : Int))) := hub8 _ _ hnc
            obtain ⟨gg, gc, hgv, hgc, hgf⟩ := HI8.out.sn.goneAt HXI.out.1
            obtain ⟨mg, mc', hmv, m0, m1, m2⟩ := HI8.out.sn.msgAt HXI.out.1
            subst hgv hmv
            rw [HXI.out.2.1] at hgc
            have HW8 : Hid (_ = W8) := hW8
            have HG8 : Hid (w7.heap.size = g8) := hg8
            have HNR : Hid (∀ w', _) := fun w' => near_ok pc.m x.1 w' HXI.out.2.2.1 HXI.out.2.2.2
            clear hE7 hW8 hg8 hb8 hnc hub8
            go_upto_region 19 with fail
            rw [HW8.out, HG8.out]
            have nc8 := HNC8.out
            obtain ⟨x0, x1, x2⟩ := cells_3 HX8.out
            obtain ⟨c0, c1, c2⟩ := cells_3 HI8.out.sn.box
            obtain ⟨zn, hzn⟩ : ∃ z, zs.length = z := ⟨_, rfl⟩
            rw [hzn] at c1 c2 hil2 HI8
            have HZN : Hid (zs.length = zn) := hzn
            rw [hzn] at hzl
            clear hzn
            go_cut [112] from 48 to 111 (fun s112 wc => s112 = .bool false ∧ Hid (Below W8.heap.size W8 wc))
            case first =>
              have HSW : Hid (∀ w', Below W8.heap.size W8 w' → w'.cell? ⟨S, 0, none⟩ = some nv4 ∧ w'.cell? ⟨S, 1, none⟩ = some (.slice (some ⟨mg, 0, none⟩) zn mc') ∧ w'.cell? ⟨S, 2, none⟩ = some (.slice (some ⟨gg, 0, none⟩) zn gc) ∧ w'.cell? ⟨gg, i, none⟩ = some (.bool false) ∧ w'.cell? ⟨mg, i * 3, none⟩ = some (.int .i64 x.1.f) ∧ w'.cell? ⟨mg, i * 3 + 1, none⟩ = some (.int .i64 x.1.t) ∧ w'.cell? ⟨mg, i * 3 + 2, none⟩ = some (.string x.1.b) ∧ w'.cell? ⟨g8, 0, none⟩ = some (.int .i64 pc.m.f) ∧ w'.cell? ⟨g8, 1, none⟩ = some (.int .i64 pc.m.t) ∧ w'.cell? ⟨g8, 2, none⟩ = some (.string pc.m.b) ∧ w'.cell? ⟨ub, j, none⟩ = some (.int .i64 (pc.n : Int))) := fun w' hb => by
                have k : ∀ {b o v}, b < W8.heap.size → W8.cell? ⟨b, o, none⟩ = some v → w'.cell? ⟨b, o, none⟩ = some v := fun hl hv => by rw [hb.cell (p := ⟨_, _, none⟩) hl]; exact hv
                have l1 := HI8.out.sn.lt S (.inl rfl)
                have l2 := HI8.out.sn.lt gg (.inr (.inr (.inr rfl)))
                have l3 := HI8.out.sn.lt mg (.inr (.inr (.inl rfl)))
                have l4 := lt_of_blk HX8.out
                have l5 := (row_block HU8.out.1 ub rfl).2
                exact ⟨k l1 c0, k l1 c1, k l1 c2, k l2 hgc, k l3 m0, k l3 m1, k l3 m2, k l4 x0, k l4 x1, k l4 x2, k l5 nc8⟩
              rcases Nat.eq_zero_or_pos j with hj0 | hj0
              · have HEN : Hid (∀ args w, (callFunc 15 args).run Try.prog w = .ok (.enter 15 args) w) := enters_of Try.func15 (by kernel_rfl) rfl
                have HER : Hid (∀ args w, (callFunc 17 args).run Try.prog w = .ok (.enter 17 args) w) := enters_of Try.func17 (by kernel_rfl) rfl
                have HJ0 : Hid (j = 0) := hj0
                clear hj0
                refine wp_region_held_drew (S := (fun w' => (w'.cell? ⟨S, 0, none⟩ = some nv4 ∧ w'.cell? ⟨S, 1, none⟩ = some (.slice (some ⟨mg, 0, none⟩) zn mc') ∧ w'.cell? ⟨S, 2, none⟩ = some (.slice (some ⟨gg, 0, none⟩) zn gc) ∧ w'.cell? ⟨gg, i, none⟩ = some (.bool false) ∧ w'.cell? ⟨mg, i * 3, none⟩ = some (.int .i64 x.1.f) ∧ w'.cell? ⟨mg, i * 3 + 1, none⟩ = some (.int .i64 x.1.t) ∧ w'.cell? ⟨mg, i * 3 + 2, none⟩ = some (.string x.1.b) ∧ w'.cell? ⟨g8, 0, none⟩ = some (.int .i64 pc.m.f) ∧ w'.cell? ⟨g8, 1, none⟩ = some (.int .i64 pc.m.t) ∧ w'.cell? ⟨g8, 2, none⟩ = some (.string pc.m.b) ∧ w'.cell? ⟨ub, j, none⟩ = some (.int .i64 (pc.n : Int))))) (by kernel_rfl) (HSW.out _ (below_drew (Below.refl _ _))) (fun hHeld => ?_)
                refine wpAnyH_take (i := 0) (v := ?_) rfl (by kernel_rfl) (by kernel_rfl) (by kernel_rfl) (fun _ _ _ h => h) ?_ hHeld ?_
                rotate_left
                · refine Or.inl ⟨by rfl, ?_⟩; intro w hSw; obtain ⟨hh0, hh1, hh2, hh3, hh4, hh5, hh6, hh7, hh8, hh9, hh10⟩ := hSw; go_simp <;> with_reducible rfl
                try simp only [List.getElem_toArray, List.getElem_cons_succ, List.getElem_cons_zero, Act.put, List.setIfInBounds_toArray, List.set_cons_zero, List.set_cons_succ]
                refine wpAnyH_take (i := 1) (v := ?_) rfl (by kernel_rfl) (by kernel_rfl) (by kernel_rfl) (fun _ _ _ h => h) ?_ hHeld ?_
                rotate_left
                · refine Or.inl ⟨by rfl, ?_⟩; intro w hSw; obtain ⟨hh0, hh1, hh2, hh3, hh4, hh5, hh6, hh7, hh8, hh9, hh10⟩ := hSw; go_simp <;> with_reducible rfl
                try simp only [List.getElem_toArray, List.getElem_cons_succ, List.getElem_cons_zero, Act.put, List.setIfInBounds_toArray, List.set_cons_zero, List.set_cons_succ]
                refine wpAnyH_take (i := 2) (v := ?_) rfl (by kernel_rfl) (by kernel_rfl) (by kernel_rfl) (fun _ _ _ h => h) ?_ hHeld ?_
                rotate_left
                · refine Or.inl ⟨by rfl, ?_⟩; intro w hSw; obtain ⟨hh0, hh1, hh2, hh3, hh4, hh5, hh6, hh7, hh8, hh9, hh10⟩ := hSw; go_simp <;> with_reducible rfl
                try simp only [List.getElem_toArray, List.getElem_cons_succ, List.getElem_cons_zero, Act.put, List.setIfInBounds_toArray, List.set_cons_zero, List.set_cons_succ]
                refine wpAnyH_take (i := 3) (v := ?_) rfl (by kernel_rfl) (by kernel_rfl) (by kernel_rfl) (fun _ _ _ h => h) ?_ hHeld ?_
                rotate_left
                · refine Or.inl ⟨by rfl, ?_⟩; intro w hSw; obtain ⟨hh0, hh1, hh2, hh3, hh4, hh5, hh6, hh7, hh8, hh9, hh10⟩ := hSw; go_simp <;> with_reducible rfl
                try simp only [List.getElem_toArray, List.getElem_cons_succ, List.getElem_cons_zero, Act.put, List.setIfInBounds_toArray, List.set_cons_zero, List.set_cons_succ]
                refine wpAnyH_take (i := 4) (v := ?_) rfl (by kernel_rfl) (by kernel_rfl) (by kernel_rfl) (fun _ _ _ h => h) ?_ hHeld ?_
                rotate_left
                · refine Or.inl ⟨by rfl, ?_⟩; intro w hSw; obtain ⟨hh0, hh1, hh2, hh3, hh4, hh5, hh6, hh7, hh8, hh9, hh10⟩ := hSw; go_simp <;> with_reducible rfl
                try simp only [List.getElem_toArray, List.getElem_cons_succ, List.getElem_cons_zero, Act.put, List.setIfInBounds_toArray, List.set_cons_zero, List.set_cons_succ]
                refine wpAnyH_take (i := 5) (v := ?_) rfl (by kernel_rfl) (by kernel_rfl) (by kernel_rfl) (fun _ _ _ h => h) ?_ hHeld ?_
                rotate_left
                · refine Or.inl ⟨by rfl, ?_⟩; intro w hSw; obtain ⟨hh0, hh1, hh2, hh3, hh4, hh5, hh6, hh7, hh8, hh9, hh10⟩ := hSw; go_simp <;> with_reducible rfl
                try simp only [List.getElem_toArray, List.getElem_cons_succ, List.getElem_cons_zero, Act.put, List.setIfInBounds_toArray, List.set_cons_zero, List.set_cons_succ]
                refine wpAnyH_take (i := 6) (v := ?_) rfl (by kernel_rfl) (by kernel_rfl) (by kernel_rfl) (fun _ _ _ h => h) ?_ hHeld ?_
                rotate_left
                · refine Or.inl ⟨by rfl, ?_⟩; intro w hSw; obtain ⟨hh0, hh1, hh2, hh3, hh4, hh5, hh6, hh7, hh8, hh9, hh10⟩ := hSw; go_simp <;> with_reducible rfl
                try simp only [List.getElem_toArray, List.getElem_cons_succ, List.getElem_cons_zero, Act.put, List.setIfInBounds_toArray, List.set_cons_zero, List.set_cons_succ]
                refine wpAnyH_take (i := 7) (v := ?_) rfl (by kernel_rfl) (by kernel_rfl) (by kernel_rfl) (fun _ _ _ h => h) ?_ hHeld ?_
                rotate_left
                · refine Or.inl ⟨by rfl, ?_⟩; intro w hSw; obtain ⟨hh0, hh1, hh2, hh3, hh4, hh5, hh6, hh7, hh8, hh9, hh10⟩ := hSw; go_simp <;> with_reducible rfl
                try simp only [List.getElem_toArray, List.getElem_cons_succ, List.getElem_cons_zero, Act.put, List.setIfInBounds_toArray, List.set_cons_zero, List.set_cons_succ]
                refine wpAnyH_take (i := 8) (v := ?_) rfl (by kernel_rfl) (by kernel_rfl) (by kernel_rfl) (fun _ _ _ h => h) ?_ hHeld ?_
                rotate_left
                · refine Or.inl ⟨by rfl, ?_⟩; intro w hSw; obtain ⟨hh0, hh1, hh2, hh3, hh4, hh5, hh6, hh7, hh8, hh9, hh10⟩ := hSw; go_simp <;> with_reducible rfl
                try simp only [List.getElem_toArray, List.getElem_cons_succ, List.getElem_cons_zero, Act.put, List.setIfInBounds_toArray, List.set_cons_zero, List.set_cons_succ]
                refine wpAnyH_take (i := 9) (v := ?_) rfl (by kernel_rfl) (by kernel_rfl) (by kernel_rfl) (fun _ _ _ h => h) ?_ hHeld ?_
                rotate_left
                · refine Or.inl ⟨by rfl, ?_⟩; intro w hSw; obtain ⟨hh0, hh1, hh2, hh3, hh4, hh5, hh6, hh7, hh8, hh9, hh10⟩ := hSw; go_simp <;> with_reducible rfl
                try simp only [List.getElem_toArray, List.getElem_cons_succ, List.getElem_cons_zero, Act.put, List.setIfInBounds_toArray, List.set_cons_zero, List.set_cons_succ]
                refine wpAnyH_take (i := 10) (v := ?_) rfl (by kernel_rfl) (by kernel_rfl) (by kernel_rfl) (fun _ _ _ h => h) ?_ hHeld ?_
                rotate_left
                · refine Or.inl ⟨by rfl, ?_⟩; intro w hSw; obtain ⟨hh0, hh1, hh2, hh3, hh4, hh5, hh6, hh7, hh8, hh9, hh10⟩ := hSw; go_simp <;> with_reducible rfl
                try simp only [List.getElem_toArray, List.getElem_cons_succ, List.getElem_cons_zero, Act.put, List.setIfInBounds_toArray, List.set_cons_zero, List.set_cons_succ]
                refine wpAnyH_take (i := 11) (v := ?_) rfl (by kernel_rfl) (by kernel_rfl) (by kernel_rfl) (fun _ _ _ h => h) ?_ hHeld ?_
                rotate_left
                · refine Or.inl ⟨by rfl, ?_⟩; intro w hSw; obtain ⟨hh0, hh1, hh2, hh3, hh4, hh5, hh6, hh7, hh8, hh9, hh10⟩ := hSw; go_simp <;> with_reducible rfl
                try simp only [List.getElem_toArray, List.getElem_cons_succ, List.getElem_cons_zero, Act.put, List.setIfInBounds_toArray, List.set_cons_zero, List.set_cons_succ]
                refine wpAnyH_take (i := 12) (v := ?_) rfl (by kernel_rfl) (by kernel_rfl) (by kernel_rfl) (fun _ _ _ h => h) ?_ hHeld ?_
                rotate_left
                · refine Or.inl ⟨by rfl, ?_⟩; intro w hSw; obtain ⟨hh0, hh1, hh2, hh3, hh4, hh5, hh6, hh7, hh8, hh9, hh10⟩ := hSw; go_simp <;> with_reducible rfl
                try simp only [List.getElem_toArray, List.getElem_cons_succ, List.getElem_cons_zero, Act.put, List.setIfInBounds_toArray, List.set_cons_zero, List.set_cons_succ]
                refine wpAnyH_take (i := 13) (v := .bool false) rfl (by kernel_rfl) (by kernel_rfl) (by kernel_rfl) (fun _ _ _ h => h) (Or.inl ⟨by rfl, ?_⟩) hHeld ?_
                · intro w hSw; clear hSw; have hj9 := HJ0.out; go_simp <;> first | rfl | simp [hj9]
                try simp only [List.getElem_toArray, List.getElem_cons_succ, List.getElem_cons_zero, Act.put, List.setIfInBounds_toArray, List.set_cons_zero, List.set_cons_succ]
                refine wpAnyH_take (i := 14) (v := ?_) rfl (by kernel_rfl) (by kernel_rfl) (by kernel_rfl) (fun _ _ _ h => h) ?_ hHeld ?_
                rotate_left
                · refine Or.inl ⟨by rfl, ?_⟩; intro w hSw; obtain ⟨hh0, hh1, hh2, hh3, hh4, hh5, hh6, hh7, hh8, hh9, hh10⟩ := hSw; go_simp <;> with_reducible rfl
                try simp only [List.getElem_toArray, List.getElem_cons_succ, List.getElem_cons_zero, Act.put, List.setIfInBounds_toArray, List.set_cons_zero, List.set_cons_succ]
                refine wpAnyH_take (i := 15) (v := undef) rfl (by kernel_rfl) (by kernel_rfl) (by kernel_rfl) (fun _ _ _ h => h) (Or.inr ⟨by rfl, rfl⟩) hHeld ?_
                try simp only [List.getElem_toArray, List.getElem_cons_succ, List.getElem_cons_zero, Act.put, List.setIfInBounds_toArray, List.set_cons_zero, List.set_cons_succ]
                refine wpAnyH_take (i := 16) (v := undef) rfl (by kernel_rfl) (by kernel_rfl) (by kernel_rfl) (fun _ _ _ h => h) (Or.inr ⟨by rfl, rfl⟩) hHeld ?_
                try simp only [List.getElem_toArray, List.getElem_cons_succ, List.getElem_cons_zero, Act.put, List.setIfInBounds_toArray, List.set_cons_zero, List.set_cons_succ]
                refine wpAnyH_take (i := 17) (v := undef) rfl (by kernel_rfl) (by kernel_rfl) (by kernel_rfl) (fun _ _ _ h => h) (Or.inr ⟨by rfl, rfl⟩) hHeld ?_
                try simp only [List.getElem_toArray, List.getElem_cons_succ, List.getElem_cons_zero, Act.put, List.setIfInBounds_toArray, List.set_cons_zero, List.set_cons_succ]
                refine wpAnyH_take (i := 18) (v := undef) rfl (by kernel_rfl) (by kernel_rfl) (by kernel_rfl) (fun _ _ _ h => h) (Or.inr ⟨by rfl, rfl⟩) hHeld ?_
                try simp only [List.getElem_toArray, List.getElem_cons_succ, List.getElem_cons_zero, Act.put, List.setIfInBounds_toArray, List.set_cons_zero, List.set_cons_succ]
                refine wpAnyH_take (i := 19) (v := undef) rfl (by kernel_rfl) (by kernel_rfl) (by kernel_rfl) (fun _ _ _ h => h) (Or.inr ⟨by rfl, rfl⟩) hHeld ?_
                try simp only [List.getElem_toArray, List.getElem_cons_succ, List.getElem_cons_zero, Act.put, List.setIfInBounds_toArray, List.set_cons_zero, List.set_cons_succ]
                refine wpAnyH_take (i := 20) (v := undef) rfl (by kernel_rfl) (by kernel_rfl) (by kernel_rfl) (fun _ _ _ h => h) (Or.inr ⟨by rfl, rfl⟩) hHeld ?_
                try simp only [List.getElem_toArray, List.getElem_cons_succ, List.getElem_cons_zero, Act.put, List.setIfInBounds_toArray, List.set_cons_zero, List.set_cons_succ]
                refine wpAnyH_take (i := 21) (v := undef) rfl (by kernel_rfl) (by kernel_rfl) (by kernel_rfl) (fun _ _ _ h => h) (Or.inr ⟨by rfl, rfl⟩) hHeld ?_
                try simp only [List.getElem_toArray, List.getElem_cons_succ, List.getElem_cons_zero, Act.put, List.setIfInBounds_toArray, List.set_cons_zero, List.set_cons_succ]
                refine wpAnyH_take (i := 22) (v := undef) rfl (by kernel_rfl) (by kernel_rfl) (by kernel_rfl) (fun _ _ _ h => h) (Or.inr ⟨by rfl, rfl⟩) hHeld ?_
                try simp only [List.getElem_toArray, List.getElem_cons_succ, List.getElem_cons_zero, Act.put, List.setIfInBounds_toArray, List.set_cons_zero, List.set_cons_succ]
                refine wpAnyH_take (i := 23) (v := undef) rfl (by kernel_rfl) (by kernel_rfl) (by kernel_rfl) (fun _ _ _ h => h) (Or.inr ⟨by rfl, rfl⟩) hHeld ?_
                try simp only [List.getElem_toArray, List.getElem_cons_succ, List.getElem_cons_zero, Act.put, List.setIfInBounds_toArray, List.set_cons_zero, List.set_cons_succ]
                refine wpAnyH_take (i := 24) (v := undef) rfl (by kernel_rfl) (by kernel_rfl) (by kernel_rfl) (fun _ _ _ h => h) (Or.inr ⟨by rfl, rfl⟩) hHeld ?_
                try simp only [List.getElem_toArray, List.getElem_cons_succ, List.getElem_cons_zero, Act.put, List.setIfInBounds_toArray, List.set_cons_zero, List.set_cons_succ]
                refine wpAnyH_take (i := 25) (v := ?_) rfl (by kernel_rfl) (by kernel_rfl) (by kernel_rfl) (fun _ _ _ h => h) ?_ hHeld ?_
                rotate_left
                · refine Or.inl ⟨by rfl, ?_⟩; intro w hSw; obtain ⟨hh0, hh1, hh2, hh3, hh4, hh5, hh6, hh7, hh8, hh9, hh10⟩ := hSw; go_simp <;> with_reducible rfl
                try simp only [List.getElem_toArray, List.getElem_cons_succ, List.getElem_cons_zero, Act.put, List.setIfInBounds_toArray, List.set_cons_zero, List.set_cons_succ]
                refine wpAnyH_take (i := 26) (v := ?_) rfl (by kernel_rfl) (by kernel_rfl) (by kernel_rfl) (fun _ _ _ h => h) ?_ hHeld ?_
                rotate_left
                · refine Or.inl ⟨by rfl, ?_⟩; intro w hSw; obtain ⟨hh0, hh1, hh2, hh3, hh4, hh5, hh6, hh7, hh8, hh9, hh10⟩ := hSw; go_simp <;> with_reducible rfl
                try simp only [List.getElem_toArray, List.getElem_cons_succ, List.getElem_cons_zero, Act.put, List.setIfInBounds_toArray, List.set_cons_zero, List.set_cons_succ]
                refine wpAnyH_take (i := 27) (v := ?_) rfl (by kernel_rfl) (by kernel_rfl) (by kernel_rfl) (fun _ _ _ h => h) ?_ hHeld ?_
                rotate_left
                · refine Or.inl ⟨by rfl, ?_⟩; intro w hSw; obtain ⟨hh0, hh1, hh2, hh3, hh4, hh5, hh6, hh7, hh8, hh9, hh10⟩ := hSw; go_simp <;> with_reducible rfl
                try simp only [List.getElem_toArray, List.getElem_cons_succ, List.getElem_cons_zero, Act.put, List.setIfInBounds_toArray, List.set_cons_zero, List.set_cons_succ]
                refine wpAnyH_take (i := 28) (v := ?_) rfl (by kernel_rfl) (by kernel_rfl) (by kernel_rfl) (fun _ _ _ h => h) ?_ hHeld ?_
                rotate_left
                · refine Or.inl ⟨by rfl, ?_⟩; intro w hSw; obtain ⟨hh0, hh1, hh2, hh3, hh4, hh5, hh6, hh7, hh8, hh9, hh10⟩ := hSw; go_simp <;> with_reducible rfl
                try simp only [List.getElem_toArray, List.getElem_cons_succ, List.getElem_cons_zero, Act.put, List.setIfInBounds_toArray, List.set_cons_zero, List.set_cons_succ]
                refine wpAnyH_ready (rs := [29]) (by kernel_rfl) (by simp) ?_
                refine AllReadyH.cons rfl (fun K hK => ?_) AllReadyH.nil
                refine step_callx (by rfl) 15 _ _ (by rfl) HEN.out [.int .i64 0] (by rfl) (num_any 0 _) ?_
                rintro e w9 ⟨rfl, rfl⟩
                refine ⟨_, rfl, hK.out _ _ hHeld (fun hHeld => ?_)⟩
                clear hK K
                try simp only [List.getElem_toArray, List.getElem_cons_succ, List.getElem_cons_zero, Act.put, List.setIfInBounds_toArray, List.set_cons_zero, List.set_cons_succ]
                refine wpAnyH_take (i := 30) (v := ?_) rfl (by kernel_rfl) (by kernel_rfl) (by kernel_rfl) (fun _ _ _ h => h) ?_ hHeld ?_
                rotate_left
                · refine Or.inl ⟨by rfl, ?_⟩; intro w hSw; obtain ⟨hh0, hh1, hh2, hh3, hh4, hh5, hh6, hh7, hh8, hh9, hh10⟩ := hSw; go_simp <;> with_reducible rfl
                try simp only [List.getElem_toArray, List.getElem_cons_succ, List.getElem_cons_zero, Act.put, List.setIfInBounds_toArray, List.set_cons_zero, List.set_cons_succ]
                refine wpAnyH_take (i := 31) (v := ?_) rfl (by kernel_rfl) (by kernel_rfl) (by kernel_rfl) (fun _ _ _ h => h) ?_ hHeld ?_
                rotate_left
                · refine Or.inl ⟨by rfl, ?_⟩; intro w hSw; obtain ⟨hh0, hh1, hh2, hh3, hh4, hh5, hh6, hh7, hh8, hh9, hh10⟩ := hSw; go_simp <;> with_reducible rfl
                try simp only [List.getElem_toArray, List.getElem_cons_succ, List.getElem_cons_zero, Act.put, List.setIfInBounds_toArray, List.set_cons_zero, List.set_cons_succ]
                refine wpAnyH_take (i := 32) (v := ?_) rfl (by kernel_rfl) (by kernel_rfl) (by kernel_rfl) (fun _ _ _ h => h) ?_ hHeld ?_
                rotate_left
                · refine Or.inl ⟨by rfl, ?_⟩; intro w hSw; obtain ⟨hh0, hh1, hh2, hh3, hh4, hh5, hh6, hh7, hh8, hh9, hh10⟩ := hSw; go_simp <;> with_reducible rfl
                try simp only [List.getElem_toArray, List.getElem_cons_succ, List.getElem_cons_zero, Act.put, List.setIfInBounds_toArray, List.set_cons_zero, List.set_cons_succ]
                refine wpAnyH_take (i := 33) (v := ?_) rfl (by kernel_rfl) (by kernel_rfl) (by kernel_rfl) (fun _ _ _ h => h) ?_ hHeld ?_
                rotate_left
                · refine Or.inl ⟨by rfl, ?_⟩; intro w hSw; obtain ⟨hh0, hh1, hh2, hh3, hh4, hh5, hh6, hh7, hh8, hh9, hh10⟩ := hSw; go_simp <;> with_reducible rfl
                try simp only [List.getElem_toArray, List.getElem_cons_succ, List.getElem_cons_zero, Act.put, List.setIfInBounds_toArray, List.set_cons_zero, List.set_cons_succ]
                refine wpAnyH_take (i := 34) (v := ?_) rfl (by kernel_rfl) (by kernel_rfl) (by kernel_rfl) (fun _ _ _ h => h) ?_ hHeld ?_
                rotate_left
                · refine Or.inl ⟨by rfl, ?_⟩; intro w hSw; obtain ⟨hh0, hh1, hh2, hh3, hh4, hh5, hh6, hh7, hh8, hh9, hh10⟩ := hSw; go_simp <;> with_reducible rfl
                try simp only [List.getElem_toArray, List.getElem_cons_succ, List.getElem_cons_zero, Act.put, List.setIfInBounds_toArray, List.set_cons_zero, List.set_cons_succ]
                refine wpAnyH_take (i := 35) (v := ?_) rfl (by kernel_rfl) (by kernel_rfl) (by kernel_rfl) (fun _ _ _ h => h) ?_ hHeld ?_
                rotate_left
                · refine Or.inl ⟨by rfl, ?_⟩; intro w hSw; obtain ⟨hh0, hh1, hh2, hh3, hh4, hh5, hh6, hh7, hh8, hh9, hh10⟩ := hSw; go_simp <;> with_reducible rfl
                try simp only [List.getElem_toArray, List.getElem_cons_succ, List.getElem_cons_zero, Act.put, List.setIfInBounds_toArray, List.set_cons_zero, List.set_cons_succ]
                refine wpAnyH_take (i := 36) (v := ?_) rfl (by kernel_rfl) (by kernel_rfl) (by kernel_rfl) (fun _ _ _ h => h) ?_ hHeld ?_
                rotate_left
                · refine Or.inl ⟨by rfl, ?_⟩; intro w hSw; obtain ⟨hh0, hh1, hh2, hh3, hh4, hh5, hh6, hh7, hh8, hh9, hh10⟩ := hSw; go_simp <;> with_reducible rfl
                try simp only [List.getElem_toArray, List.getElem_cons_succ, List.getElem_cons_zero, Act.put, List.setIfInBounds_toArray, List.set_cons_zero, List.set_cons_succ]
                refine wpAnyH_take (i := 37) (v := ?_) rfl (by kernel_rfl) (by kernel_rfl) (by kernel_rfl) (fun _ _ _ h => h) ?_ hHeld ?_
                rotate_left
                · refine Or.inl ⟨by rfl, ?_⟩; intro w hSw; obtain ⟨hh0, hh1, hh2, hh3, hh4, hh5, hh6, hh7, hh8, hh9, hh10⟩ := hSw; go_simp <;> with_reducible rfl
                try simp only [List.getElem_toArray, List.getElem_cons_succ, List.getElem_cons_zero, Act.put, List.setIfInBounds_toArray, List.set_cons_zero, List.set_cons_succ]
                refine wpAnyH_take (i := 38) (v := ?_) rfl (by kernel_rfl) (by kernel_rfl) (by kernel_rfl) (fun _ _ _ h => h) ?_ hHeld ?_
                rotate_left
                · refine Or.inl ⟨by rfl, ?_⟩; intro w hSw; obtain ⟨hh0, hh1, hh2, hh3, hh4, hh5, hh6, hh7, hh8, hh9, hh10⟩ := hSw; go_simp <;> with_reducible rfl
                try simp only [List.getElem_toArray, List.getElem_cons_succ, List.getElem_cons_zero, Act.put, List.setIfInBounds_toArray, List.set_cons_zero, List.set_cons_succ]
                refine wpAnyH_take (i := 39) (v := ?_) rfl (by kernel_rfl) (by kernel_rfl) (by kernel_rfl) (fun _ _ _ h => h) ?_ hHeld ?_
                rotate_left
                · refine Or.inl ⟨by rfl, ?_⟩; intro w hSw; obtain ⟨hh0, hh1, hh2, hh3, hh4, hh5, hh6, hh7, hh8, hh9, hh10⟩ := hSw; go_simp <;> with_reducible rfl
                try simp only [List.getElem_toArray, List.getElem_cons_succ, List.getElem_cons_zero, Act.put, List.setIfInBounds_toArray, List.set_cons_zero, List.set_cons_succ]
                refine wpAnyH_take (i := 40) (v := ?_) rfl (by kernel_rfl) (by kernel_rfl) (by kernel_rfl) (fun _ _ _ h => h) ?_ hHeld ?_
                rotate_left
                · refine Or.inl ⟨by rfl, ?_⟩; intro w hSw; obtain ⟨hh0, hh1, hh2, hh3, hh4, hh5, hh6, hh7, hh8, hh9, hh10⟩ := hSw; go_simp <;> with_reducible rfl
                try simp only [List.getElem_toArray, List.getElem_cons_succ, List.getElem_cons_zero, Act.put, List.setIfInBounds_toArray, List.set_cons_zero, List.set_cons_succ]
                refine wpAnyH_ready (rs := [41]) (by kernel_rfl) (by simp) ?_
                refine AllReadyH.cons rfl (fun K hK => ?_) AllReadyH.nil
                refine step_callx (by rfl) 17 _ _ (by rfl) HER.out [.agg #[.int .i64 pc.m.f, .int .i64 pc.m.t, .string pc.m.b], .agg #[.int .i64 x.1.f, .int .i64 x.1.t, .string x.1.b]] (by rfl) (HNR.out _) ?_
                rintro e w9 ⟨rfl, hb9⟩
                have HB9 : Hid (Below W8.heap.size W8 w9) := of_drew hb9
                clear hb9
                refine ⟨_, rfl, hK.out _ _ (HSW.out _ HB9.out) (fun hHeld => ?_)⟩
                clear hK K
                try simp only [List.getElem_toArray, List.getElem_cons_succ, List.getElem_cons_zero, Act.put, List.setIfInBounds_toArray, List.set_cons_zero, List.set_cons_succ]
                refine wpAnyH_take (i := 42) (v := ?_) rfl (by kernel_rfl) (by kernel_rfl) (by kernel_rfl) (fun _ _ _ h => h) ?_ hHeld ?_
                rotate_left
                · refine Or.inl ⟨by rfl, ?_⟩; intro w hSw; obtain ⟨hh0, hh1, hh2, hh3, hh4, hh5, hh6, hh7, hh8, hh9, hh10⟩ := hSw; go_simp <;> with_reducible rfl
                try simp only [List.getElem_toArray, List.getElem_cons_succ, List.getElem_cons_zero, Act.put, List.setIfInBounds_toArray, List.set_cons_zero, List.set_cons_succ]
                refine wpAnyH_take (i := 43) (v := ?_) rfl (by kernel_rfl) (by kernel_rfl) (by kernel_rfl) (fun _ _ _ h => h) ?_ hHeld ?_
                rotate_left
                · refine Or.inl ⟨by rfl, ?_⟩; intro w hSw; obtain ⟨hh0, hh1, hh2, hh3, hh4, hh5, hh6, hh7, hh8, hh9, hh10⟩ := hSw; go_simp <;> with_reducible rfl
                try simp only [List.getElem_toArray, List.getElem_cons_succ, List.getElem_cons_zero, Act.put, List.setIfInBounds_toArray, List.set_cons_zero, List.set_cons_succ]
                refine wpAnyH_done (by kernel_rfl) ?_ _
                go_wp2_with fail
                go_meet
                case rel => exact ⟨rfl, HB9⟩
              · obtain ⟨pb, hpb, hpl⟩ := HPV8.out hj0
                have HPB : Hid (∀ w', Below W8.heap.size W8 w' → w'.cell? ⟨ub, j - 1, none⟩ = some (.int .i64 (pb.n : Int))) := fun w' hb => by rw [hb.cell (p := ⟨ub, j - 1, none⟩) (row_block HU8.out.1 ub rfl).2]; exact hpb
                have hj1 : IntKind.i64.wrap ((j : Int) - 1) = ((j - 1 : Nat) : Int) := by unfold IntKind.wrap; simp [IntKind.bits, IntKind.signed]; omega
                have hj2 : (0 : Int) < (j : Int) := by omega
                have hj3 : ((j - 1 : Nat) : Int) < (un : Int) := by omega
                have hpl2 : ¬ (pc.n : Int) ≤ (pb.n : Int) := by omega
                obtain ⟨jp, hjp⟩ : ∃ z, j - 1 = z := ⟨_, rfl⟩
                rw [hjp] at hj1 hj3 hpb HPB
                clear hjp
                go_region_held3 (fun w' => (w'.cell? ⟨S, 0, none⟩ = some nv4 ∧ w'.cell? ⟨S, 1, none⟩ = some (.slice (some ⟨mg, 0, none⟩) zn mc') ∧ w'.cell? ⟨S, 2, none⟩ = some (.slice (some ⟨gg, 0, none⟩) zn gc) ∧ w'.cell? ⟨gg, i, none⟩ = some (.bool false) ∧ w'.cell? ⟨mg, i * 3, none⟩ = some (.int .i64 x.1.f) ∧ w'.cell? ⟨mg, i * 3 + 1, none⟩ = some (.int .i64 x.1.t) ∧ w'.cell? ⟨mg, i * 3 + 2, none⟩ = some (.string x.1.b) ∧ w'.cell? ⟨g8, 0, none⟩ = some (.int .i64 pc.m.f) ∧ w'.cell? ⟨g8, 1, none⟩ = some (.int .i64 pc.m.t) ∧ w'.cell? ⟨g8, 2, none⟩ = some (.string pc.m.b) ∧ w'.cell? ⟨ub, j, none⟩ = some (.int .i64 (pc.n : Int))) ∧ w'.cell? ⟨ub, jp, none⟩ = some (.int .i64 (pb.n : Int)))
                  (first
                  | (refine ⟨HSW.out _ ?_, HPB.out _ ?_⟩ <;> repeat (first | exact Below.refl _ _ | exact HB9.out | refine below_drew ?_))
                  | go_keep)
                  (first
                  | (go_at_call 15; refine (num_any _ _).mono ?_; rintro e w' ⟨rfl, hw'⟩; have hw2 := hw'.symm; subst hw2)
                  | (go_at_call 17
                     refine (HNR.out _).mono ?_
                     rintro e w9 ⟨rfl, hb9⟩
                     have HB9 : Hid (Below W8.heap.size W8 w9) := of_drew hb9
                     clear hb9))
                go_wp2_with fail
                go_meet
                case rel => exact ⟨rfl, HB9⟩
            case rest =>
              obtain ⟨rfl, HBC⟩ := hcut
              have HIC : Hid (HoI At w wc K7 L2 (.pointer (some ⟨b, 0, none⟩)) S nv4 (.slice (some ⟨mg, 0, none⟩) zn mc') (.slice (some ⟨gg, 0, none⟩) zn gc) zs) := HI8.out.at sv HBC.out
              have HUC : Hid (InsOwn wc 0 (.slice (some ⟨ub, 0, none⟩) un uc) (L2.fl.map fun p => (p.n : Int)) ∧ ∀ j, (Value.slice (some ⟨ub, 0, none⟩) un uc).ownBlock = some j → ¬ K7 j) := ⟨owns_below HU8.out.1 HBC.out, HU8.out.2⟩
              clear c0 c1 c2 x0 x1 x2 m0 m1 m2 hgc hgf nc8
              go_wp2_with fail
              go_roundw
              case rel => exact ⟨j + 1, K7, by go_num, by omega, (by rw [HZN.out]; exact HIC), HUC⟩
              case measure => simp [intOf]; omega
          · obtain rfl : j = un := by omega
            have hge : ¬ (j : Int) < (j : Int) := by omega
            go_wp2_with fail
            go_roundw
            case rel => exact ⟨q + 1, K6, nv4, mv4, gv4, zs, by go_num, by omega, by omega, hzl, by rw [HN.out]; exact HI6, by rw [HN.out]; exact HO4⟩
            case measure => simp [intOf]; omega
      · have hqj : ¬ (q : Int) < 120 := by omega
        go_wp2_with fail
        refine Calls.mono (HKN.out _) ?_
        rintro e wz ⟨rfl, hbz⟩
        have HZ : Hid (Below w.heap.size w wz) := trans2 HI.out.below hbz
        clear hbz
        go_wp2_with fail
        go_ret
        exact ⟨rfl, HZ.out⟩
    · obtain rfl : q = sn := by omega
      have hge : ¬ (q : Int) < (q : Int) := by omega
      go_wp2_with fail
      refine Calls.mono (HKN.out _) ?_
      rintro e wz ⟨rfl, hbz⟩
      have HZ : Hid (Below w.heap.size w wz) := trans2 HI.out.below hbz
      clear hbz
      go_wp2_with fail
      go_ret
      exact ⟨rfl, HZ.out⟩
end Go.Proofs.Ytfcobhgjkibdgaa
