/-
  heraldlaw10: the desk's twins.
-/
import Derived.Test.YtlidkieljiebiaaQTwinsP
import Derived.Deep.CutRange
namespace Go.Proofs.Ytlidkieljiebiaa
open Go.RowKit
set_option linter.unusedVariables false
set_option linter.unusedSimpArgs false

set_option maxHeartbeats 6400000 in
set_option maxRecDepth 100000 in
theorem twins_any (D : Nat) (tv pv sv nv : Value) (L M : List Value) (vl : Value) (l : List PaT) (w : World) (P : Nat → Prop) (h : DeskAt w D pv tv nv sv M L) (hl : PasAt w P vl l) (hs : PasSmall l) (ht : PasTight l) (hP : ∀ j, P j → ¬ DeskK D pv tv nv sv M L j) (hMM : True) :
    Calls Try.prog 53 #[.pointer (some ⟨D, 0, none⟩), vl] w fun e w' => ∃ mv sv' L' us, e = .returned mv ∧ DeskAt w' D pv mv nv sv' M L' ∧ us.length = l.length ∧ l.length ≤ L'.length ∧ w'.ownsRow 0 96 5 mv (l.length + 1) (((l.zip us).flatMap fun x => paCs x.1 x.2) ++ paCs ⟨777, 0, ⟨#[]⟩, 0, []⟩ (.slice none 0 0)) ∧ (∀ (i : Nat) (t : PaT) (r u : Value), l[i]? = some t → L'[i]? = some r → us[i]? = some u → NsAt w' t r u) ∧ Chg w w' (DeskK D pv tv nv sv M L) ∧ ∀ j, DeskK D pv mv nv sv' M L' j → DeskK D pv tv nv sv M L j ∨ w.heap.size ≤ j := by
  obtain ⟨la, lc, rfl, _⟩ := RowAt.form hl
  obtain ⟨n, hn⟩ : ∃ n, l.length = n := ⟨_, rfl⟩
  obtain ⟨K, hK⟩ : ∃ K, DeskK D pv tv nv sv M L = K := ⟨_, rfl⟩
  have hkd : ∀ j, DeskK D pv tv nv sv M L j → K j := fun j hj => by rw [← hK]; exact hj
  rw [hK] at hP ⊢
  rw [hn] at hl ⊢
  have hn1 : (n + 1) * 64 ≤ 140737488355328 := by have := ht.len; rw [hn] at this; exact this
  obtain ⟨tn, txs, htv⟩ := h.pv
  obtain ⟨ta, tc, rfl, htc⟩ := row_form htv
  have hm0 : w.ownsRow 0 96 5 (.slice ta 0 tc) 0 [] := by
    rcases htv.2 with ⟨hv, h0⟩ | ⟨g, cap, cur, hv, _⟩
    · cases hv; exact owns_nil _ _ _ _
    · cases hv
      have := row_cut htv (Nat.zero_le _)
      simpa using this
  have HI : Hid (PwI w K l w D 0 (.slice ta tn tc) pv nv M (.slice ta 0 tc) sv L []) := ⟨h.box, h.tv, h.ts, h.ns, fun k hk => (row_block htv k hk).2, by simpa using hm0, rfl, Nat.zero_le _, fun i t r u hi => absurd hi (Nat.not_lt_zero _), Chg.refl _ _,
    fun j hj => .inl (hkd j (.inr (.inr (.inl (by cases ta with | none => cases hj | some a => exact hj))))), fun j hj => .inl (hkd j (.inr (.inr (.inr (.inr (.inl hj)))))), fun t ht j hj => .inl (hkd j (.inr (.inr (.inr (.inr (.inr (.inr ⟨t, ht, hj⟩)))))))⟩
  obtain ⟨b0, b1, b2, b3⟩ := cells_4 h.box
  have HN : Hid (l.length = n) := hn
  have HL1 : Hid (PasAt w P (.slice la n lc) l) := hl
  have HT : Hid (PasTight l) := ht
  have HP : Hid (∀ j, P j → ¬ K j) := hP
  have HKD : Hid (K D ∧ (∀ k, pv.ownBlock = some k → K k) ∧ (∀ k, nv.ownBlock = some k → K k) ∧ ∀ t ∈ M, ∀ k, t.ownBlock = some k → K k) := ⟨hkd D (.inl rfl), fun k hk => hkd k (.inr (.inl hk)), fun k hk => hkd k (.inr (.inr (.inr (.inl hk)))), fun t ht k hk => hkd k (.inr (.inr (.inr (.inr (.inr (.inl ⟨t, ht, hk⟩))))))⟩
  clear h hl hs ht hP hn hkd hK htv hm0 txs hMM
  go_enter Try.func53, Try.ntmps53
  go_wp2_with fail
  clear b0 b1 b2 b3
  go_loopw [5, 6] (fun mv i wr => ∃ (q : Nat) (ma : Option Addr) (mc : Nat) (sv1 : Value) (L1 us : List Value), i = .int .i64 q ∧ q ≤ n ∧ mv = .slice ma q mc ∧ Hid (PwI w K l wr D q (.slice ta tn tc) pv nv M (.slice ma q mc) sv1 L1 us)) (fun _ i _ => n - (intOf i).toNat)
  case atStart => exact ⟨0, ta, tc, sv, L, [], rfl, Nat.zero_le _, rfl, HI⟩
  case round =>
    obtain ⟨q, ma, mc, sv1, L1, us, rfl, hq, rfl, HI1⟩ := hrel
    clear HI
    obtain ⟨b0, b1, b2, b3⟩ := cells_4 HI1.out.box
    obtain ⟨sa, sc, hsv, _⟩ := row_form HI1.out.ts.row
    subst hsv
    by_cases hlt : q < n
    · have hqi : (q : Int) < (n : Int) := by omega
      obtain ⟨x, hx⟩ : ∃ x, l[q]? = some x := ⟨l[q]'(by rw [HN.out]; exact hlt), List.getElem?_eq_getElem _⟩
      obtain ⟨b, o, rfl, hPb, hb, u, e1⟩ := RowAt.get HL1.out hx
      obtain ⟨x0, x1, x2, x3, x4, xt⟩ := e1
      obtain ⟨xa, xc, rfl, _⟩ := RowAt.form xt
      obtain ⟨xn, hxn⟩ : ∃ z, x.nodes.length = z := ⟨_, rfl⟩
      rw [hxn] at x4 xt
      have HX : Hid (w.cell? ⟨b, o + q * 5, none⟩ = some (.int .i64 x.id) ∧ w.cell? ⟨b, o + q * 5 + 1, none⟩ = some (.int .i64 x.st) ∧ w.cell? ⟨b, o + q * 5 + 2, none⟩ = some (.string x.p) ∧ w.cell? ⟨b, o + q * 5 + 3, none⟩ = some (.int .i64 x.k) ∧ w.cell? ⟨b, o + q * 5 + 4, none⟩ = some (.slice xa xn xc)) := ⟨x0, x1, x2, x3, x4⟩
      have HXT : Hid (SesAt w P (.slice xa xn xc) x.nodes) := xt
      have HXN : Hid (x.nodes.length = xn) := hxn
      have HBB : Hid (b < w.heap.size ∧ ¬ K b) := ⟨hb, HP.out b hPb⟩
      have HXQ : Hid (l[q]? = some x) := hx
      have hxn1 : (xn + 1) * 40 ≤ 140737488355328 := by rw [← hxn]; exact HT.out.each x (List.mem_of_getElem? hx)
      obtain ⟨Ln, hLn⟩ : ∃ z, L1.length = z := ⟨_, rfl⟩
      rw [hLn] at b3 HI1
      have HLN : Hid (L1.length = Ln) := hLn
      clear x0 x1 x2 x3 x4 xt hxn hx hb hPb hLn
      go_upto_if 27 with fail
      go_cut [5] from 15 to 92 (fun s5 wc => s5 = .slice ma q mc ∧ ∃ (sv2 : Value) (L2 : List Value), q < L2.length ∧ Hid (PwI w K l wc D q (.slice ta tn tc) pv nv M (.slice ma q mc) sv2 L2 us))
      case first =>
        by_cases hqL : q = Ln
        · subst hqL
          have hmk := make8S
          have hD := lt_of_blk HI1.out.box
          have hold : ∀ ob o, (wr.alloc ob).cell? ⟨D, o, none⟩ = wr.cell? ⟨D, o, none⟩ := fun ob o => ((Below.refl wr.heap.size wr).alloc (Nat.le_refl _) ob).cell (p := ⟨D, o, none⟩) hD
          have hold2 : ∀ ob ob' o, ((wr.alloc ob).alloc ob').cell? ⟨D, o, none⟩ = wr.cell? ⟨D, o, none⟩ := fun ob ob' o => (((Below.refl wr.heap.size wr).alloc (Nat.le_refl _) ob).alloc (by simp) ob').cell (p := ⟨D, o, none⟩) hD
          clear hD
          go_wp2_with fail
          go_region_law
            (first
            | (refine step_row Try.underlying70 Try.info_sns rfl (by decide) rfl (.tmp 32) (.tmp 34) rfl 0 (.slice sa q sc) q L1 (by simp [Act.eval, Act.put]) (by have h9 := HI1.out.ts.row; rw [HLN.out] at h9; exact owns_below h9 (((below_drew (Below.refl _ _)).alloc (Nat.le_refl _) _).alloc (by simp) _)) (wr.heap.size + 1) 1 [.slice (some ⟨wr.heap.size, 0, none⟩) 0 8] (by simp [Act.eval, Act.put]) (pair_blocks (w := wr.drew)).2.1 rfl (by simp [Value.oneCell']) (by unfold maxLen; omega) (by omega) (Nat.zero_le _) ?_
               intro v5 w5 hd5 hg5 ho5
               obtain ⟨va, vc, hv5, _⟩ := row_form hd5
               subst hv5
               have hpb := pair_blocks (w := wr.drew) (t := 119) (t' := 92) (cs := #[.string ⟨#[]⟩, .string ⟨#[]⟩, .int .i64 0, .string ⟨#[]⟩, .string ⟨#[]⟩, .int .i64 0, .string ⟨#[]⟩, .string ⟨#[]⟩, .int .i64 0, .string ⟨#[]⟩, .string ⟨#[]⟩, .int .i64 0, .string ⟨#[]⟩, .string ⟨#[]⟩, .int .i64 0, .string ⟨#[]⟩, .string ⟨#[]⟩, .int .i64 0, .string ⟨#[]⟩, .string ⟨#[]⟩, .int .i64 0, .string ⟨#[]⟩, .string ⟨#[]⟩, .int .i64 0]) (cs' := #[.slice (some ⟨wr.heap.size, 0, none⟩) 0 8])
               have HG5 : Hid (PwI w K l (w5.setCell ⟨D, 3, none⟩ (.slice va (q + 1) vc)) D q (.slice ta tn tc) pv nv M (.slice ma q mc) (.slice va (q + 1) vc) (L1 ++ [.slice (some ⟨wr.heap.size, 0, none⟩) 0 8]) us) := HI1.out.grow (of_drew hpb.2.2) ⟨rfl, .inr ⟨wr.heap.size, 8, _, rfl, Nat.zero_le _, hpb.1, Nat.zero_le _, by unfold maxLen; decide, rfl, rfl⟩⟩ (Nat.le_refl _) (by rw [HLN.out]; exact hd5) hg5 ho5 HKD.out.1
               have hbx5 := blk_other (blk_other HI1.out.box (Chg.of_below (of_drew hpb.2.2) (fun _ => False)) (f := 3) (fun j hj => hj.elim) (by decide)) (Chg.grown hg5) (Kind.own (by have h9 := HI1.out.ts.row; rw [HLN.out] at h9; exact owns_below h9 (of_drew hpb.2.2))) (by decide)
               obtain ⟨d0, d1, d2, d3⟩ := cells_4 hbx5
               have fb5 := free_of hbx5
               clear hd5 hg5 ho5 hpb hbx5)
            | fail)
          all_goals
            go_wp2_with fail
            go_meet
            case rel => exact ⟨rfl, _, _, by rw [List.length_append, HLN.out]; simp, HG5⟩
        · have dL : ((q : Int) == (Ln : Int)) = false := by simp; omega
          have dLn : (q == Ln) = false := by simp; omega
          have HLE : Hid (q < L1.length) := by have := HI1.out.le; have := HLN.out; show _ < _; omega
          clear hqL
          go_wp2_with fail
          go_meet
          case rel => exact ⟨rfl, _, L1, HLE.out, HI1⟩
      case rest =>
        obtain ⟨rfl, sv2, L2, hqL, HI2⟩ := hcut
        clear HI1 b0 b1 b2 b3
        have hc2 := HI2.out.chg
        have hcell2 : ∀ i v, w.cell? ⟨b, i, none⟩ = some v → wc.cell? ⟨b, i, none⟩ = some v := fun i v hv => by rw [World.cell?_of_block (w := w) (hc2.block b HBB.out.1 HBB.out.2)]; exact hv
        have x0 := hcell2 _ _ HX.out.1
        have x1 := hcell2 _ _ HX.out.2.1
        have x2 := hcell2 _ _ HX.out.2.2.1
        have x3 := hcell2 _ _ HX.out.2.2.2.1
        have x4 := hcell2 _ _ HX.out.2.2.2.2
        clear hc2 hcell2
        go_upto_region 8 with fail
        obtain ⟨wp, hwp⟩ : ∃ W, wc.alloc (.cells #[.int .i64 x.id, .int .i64 x.st, .string x.p, .int .i64 x.k, .slice xa xn xc] 96) = W := ⟨_, rfl⟩
        have hAp : wp.heap[wc.heap.size]? = some (.cells #[.int .i64 x.id, .int .i64 x.st, .string x.p, .int .i64 x.k, .slice xa xn xc] 96 (0, 0)) := by rw [← hwp]; exact heap_alloc_new _ _
        have hbp : Below wc.heap.size wc wp := by rw [← hwp]; exact (Below.refl _ _).alloc (Nat.le_refl _) _
        rw [hwp]
        obtain ⟨gp, hgp⟩ : ∃ gp, wc.heap.size = gp := ⟨_, rfl⟩
        rw [hgp] at hAp ⊢
        have HAP : Hid (wp.heap[gp]? = some (.cells #[.int .i64 x.id, .int .i64 x.st, .string x.p, .int .i64 x.k, .slice xa xn xc] 96 (0, 0))) := hAp
        have HGP : Hid ((Value.slice ma q mc).ownBlock ≠ some gp ∧ w.heap.size ≤ gp) := ⟨fun e => by have := (row_block HI2.out.m _ e).2; omega, by rw [← hgp]; exact HI2.out.chg.size⟩
        have HI3 : Hid (PwI w K l wp D q (.slice ta tn tc) pv nv M (.slice ma q mc) sv2 L2 us) := HI2.out.at hbp
        clear x0 x1 x2 x3 x4 hAp hbp hwp hgp HI2
        obtain ⟨sa2, sc2, hsv2, _⟩ := row_form HI3.out.ts.row
        subst hsv2
        obtain ⟨r0, hr0⟩ : ∃ r0, L2[q]? = some r0 := ⟨L2[q]'hqL, List.getElem?_eq_getElem _⟩
        obtain ⟨k0, rn, rc, rxs, rfl, hrow0⟩ := HI3.out.ts.each q r0 hr0
        obtain ⟨sg, scur, rfl, hsg, hcr⟩ := row_get1 HI3.out.ts.row hr0
        have HR0 : Hid (L2[q]? = some (.slice (some ⟨k0, 0, none⟩) rn rc)) := hr0
        have HRW : Hid (wp.ownsRow 0 119 3 (.slice (some ⟨k0, 0, none⟩) 0 rc) 0 []) := by show World.ownsRow _ _ _ _ _ _ _; have := row_cut hrow0 (Nat.zero_le _); simpa using this
        have HK0 : Hid (Kind wp (fun j => j = k0) 119) := by obtain ⟨cu, hcu⟩ := row_kind hrow0 k0 rfl; exact Kind.one hcu
        have HSG : Hid (wp.heap[sg]? = some (.cells scur 92 (0, 0))) := hsg
        have HKK : Hid (K k0 ∨ w.heap.size ≤ k0) := HI3.out.kl _ (List.mem_of_getElem? hr0) k0 rfl
        obtain ⟨b0, b1, b2, b3⟩ := cells_4 HI3.out.box
        obtain ⟨L2n, hL2n⟩ : ∃ z, L2.length = z := ⟨_, rfl⟩
        rw [hL2n] at b3 hqL HI3
        have hql2 : (q : Int) < (L2n : Int) := by omega
        have HL2N : Hid (L2.length = L2n) := hL2n
        clear hr0 hrow0 hsg rxs hL2n
        go_wp2_with fail
        obtain ⟨qo, hqo⟩ : ∃ qo, q = qo := ⟨_, rfl⟩
        rw [hqo] at hlt hqi hqL hql2 hcr ⊢
        have HQO : Hid (q = qo) := hqo
        have HLT : Hid (qo < n) := hlt
        clear hqo
        go_loopw [8, 9] (fun tv k wk => ∃ (j ka kc : Nat), k = .int .i64 j ∧ tv = .slice (some ⟨ka, 0, none⟩) j kc ∧ j ≤ xn ∧ Hid (wk.ownsRow 0 119 3 (.slice (some ⟨ka, 0, none⟩) j kc) j ((x.nodes.take j).flatMap seCs)) ∧ Hid (ka = k0 ∨ wp.heap.size ≤ ka) ∧ Hid (Chg wp wk (fun b => b = k0))) (fun _ k _ => xn - (intOf k).toNat)
        case atStart => exact ⟨0, k0, rc, rfl, rfl, Nat.zero_le _, HRW, .inl rfl, Chg.refl _ _⟩
        case round =>
          obtain ⟨j, ka, kc, rfl, rfl, hj, HR, HKA, HCK⟩ := hrel
          have hcw : Chg w wr K := chg_ext HI3.out.chg HCK.out (fun i e => by have e : i = k0 := e; rw [e]; exact HKK.out)
          have HAR : Hid (wr.heap[gp]? = some (.cells #[.int .i64 x.id, .int .i64 x.st, .string x.p, .int .i64 x.k, .slice xa xn xc] 96 (0, 0))) := blk_other HAP.out HCK.out HK0.out (by decide)
          obtain ⟨y0, y1, y2, y3, y4⟩ := cells_5 HAR.out
          by_cases hjl : j < xn
          · have hji : (j : Int) < (xn : Int) := by omega
            obtain ⟨y, hy⟩ : ∃ y, x.nodes[j]? = some y := ⟨x.nodes[j]'(by rw [HXN.out]; exact hjl), List.getElem?_eq_getElem _⟩
            obtain ⟨tb, tof, rfl, hPt, htb, s0⟩ := RowAt.get HXT.out hy
            have hct : ∀ i v, w.cell? ⟨tb, i, none⟩ = some v → wr.cell? ⟨tb, i, none⟩ = some v := fun i v hv => by rw [World.cell?_of_block (w := w) (hcw.block tb htb (HP.out tb hPt))]; exact hv
            obtain ⟨s0, s1, s2⟩ := s0
            have s0 := hct _ _ s0
            have s1 := hct _ _ s1
            have s2 := hct _ _ s2
            have HY : Hid ((x.nodes.take j).flatMap seCs ++ seCs y = (x.nodes.take (j + 1)).flatMap seCs) := by show _ = _; rw [take_at hy, List.flatMap_append]; simp
            clear hy htb hPt hcw hct
            go_wp2_with (first
              | (at_builtin; refine wpList_row Try.underlying92 Try.info_sn rfl (by decide) rfl _ _ rfl 0 (.slice (some ⟨ka, 0, none⟩) j kc) j _ rfl (owns_below HR.out ((Below.refl _ _).alloc (Nat.le_refl _) _)) wr.heap.size 1 (seCs y) rfl (heap_alloc_new _ _) rfl (by simp [Value.oneCell']) (by unfold maxLen; omega) (by omega) (Nat.zero_le _) ?_; intro v4 w4 hd4 hg4 ho4))
            obtain ⟨ka4, kc4, hv4⟩ := row_some hd4
            subst hv4
            have hal : Below wr.heap.size wr (wr.alloc (.cells (seCs y).toArray 119)) := (Below.refl _ _).alloc (Nat.le_refl _) _
            have HR4 : Hid (w4.ownsRow 0 119 3 (.slice (some ⟨ka4, 0, none⟩) (j + 1) kc4) (j + 1) ((x.nodes.take (j + 1)).flatMap seCs)) := by show World.ownsRow _ _ _ _ _ _ _; rw [← HY.out]; exact hd4
            have HC4 : Hid (Chg wp w4 (fun b => b = k0)) := chg_ext (HCK.out.trans (Chg.of_below hal _)) (Chg.grown hg4) (fun i e => by cases e; exact HKA.out)
            have HKA4 : Hid (ka4 = k0 ∨ wp.heap.size ≤ ka4) := by
              rcases ho4 with e | e
              · cases e; exact HKA.out
              · cases e; exact .inr (Nat.le_trans HCK.out.size hal.size)
            clear hd4 hg4 ho4 hal
            go_roundw
            case rel => exact ⟨j + 1, ka4, kc4, by go_num, rfl, by omega, HR4, HKA4, HC4⟩
            case measure => simp [intOf]; omega
          · obtain rfl : j = xn := by omega
            have hge : ¬ (j : Int) < (j : Int) := by omega
            have HR2 : Hid (wr.ownsRow 0 119 3 (.slice (some ⟨ka, 0, none⟩) j kc) j (x.nodes.flatMap seCs)) := by
              show World.ownsRow _ _ _ _ _ _ _
              have := HR.out
              rw [List.take_of_length_le (by rw [HXN.out]; exact Nat.le_refl _)] at this
              exact this
            clear hcw
            go_upto_region 14 with (first
              | (at_builtin; refine wpList_row Try.underlying92 Try.info_sn rfl (by decide) rfl _ _ rfl 0 (.slice (some ⟨ka, 0, none⟩) j kc) j _ rfl (owns_below HR2.out ((Below.refl _ _).alloc (Nat.le_refl _) _)) wr.heap.size 1 (seCs roomS) rfl (heap_alloc_new _ _) rfl (by simp [Value.oneCell']) (by unfold maxLen; omega) (by omega) (Nat.zero_le _) ?_; intro v4 w4 hd4 hg4 ho4))
            obtain ⟨kz, cz, hv4⟩ := row_some hd4
            subst hv4
            have hal : Below wr.heap.size wr (wr.alloc (.cells (seCs roomS).toArray 119)) := (Below.refl _ _).alloc (Nat.le_refl _) _
            have hC4 : Chg wp w4 (fun b => b = k0) := chg_ext (HCK.out.trans (Chg.of_below hal _)) (Chg.grown hg4) (fun i e => by cases e; exact HKA.out)
            have hKZ : kz = k0 ∨ wp.heap.size ≤ kz := by
              rcases ho4 with e | e
              · cases e; exact HKA.out
              · cases e; exact .inr (Nat.le_trans HCK.out.size hal.size)
            have hq' := HQO.out
            subst hq'
            have hput := HI3.out.put (x := x) HR0.out hC4 hKZ (by rw [HXN.out]; exact hd4)
            rw [HXN.out] at hput
            have HZ : Hid _ := hput.1
            have HUZ : Hid _ := hput.2
            have hcz : j + 1 ≤ cz := by obtain ⟨_, _, hv, hh⟩ := row_form hd4; cases hv; exact hh
            obtain ⟨d0, d1, d2, d3⟩ := cells_4 (blk_other HI3.out.box hC4 HK0.out (by decide))
            have hsg4 := blk_other HSG.out hC4 HK0.out (by decide)
            have fs4 := free_of hsg4
            obtain ⟨_, _, he, _, cs4⟩ := row_get1 (by have h9 := row_other HI3.out.ts.row hC4 HK0.out (by decide); rw [HL2N.out] at h9; exact h9) HR0.out
            cases he
            have hap4 := blk_other HAP.out hC4 HK0.out (by decide)
            obtain ⟨wz, hwz⟩ : ∃ wz, w4.setCell ⟨sg, q, none⟩ (.slice (some ⟨kz, 0, none⟩) (j + 1) cz) = wz := ⟨_, rfl⟩
            have hapz : wz.heap[gp]? = some (.cells #[.int .i64 x.id, .int .i64 x.st, .string x.p, .int .i64 x.k, .slice xa j xc] 96 (0, 0)) := by rw [← hwz]; exact blk_other hap4 (Chg.set w4 ⟨sg, q, none⟩ _) (Kind.one hsg4) (by decide)
            rw [hwz] at HZ HUZ
            have HWZ : Hid (w4.setCell ⟨sg, q, none⟩ (.slice (some ⟨kz, 0, none⟩) (j + 1) cz) = wz) := hwz
            have hcell : ∀ i v, w.cell? ⟨b, i, none⟩ = some v → wz.cell? ⟨b, i, none⟩ = some v := fun i v hv => by rw [World.cell?_of_block (w := w) (HZ.out.chg.block b HBB.out.1 HBB.out.2)]; exact hv
            have x4 := hcell _ _ HX.out.2.2.2.2
            obtain ⟨p0, p1, p2, p3, p4⟩ := cells_5 hapz
            have fp := free_of hapz
            obtain ⟨wy, hwy⟩ : ∃ wy, wz.setCell ⟨gp, 4, none⟩ (.slice (some ⟨kz, 0, none⟩) j cz) = wy := ⟨_, rfl⟩
            have HY : Hid (PwI w K l wy D q (.slice ta tn tc) pv nv M (.slice ma q mc) (.slice (some ⟨sg, 0, none⟩) L2n sc2) (L2.set q (.slice (some ⟨kz, 0, none⟩) (j + 1) cz)) us) := by show PwI _ _ _ _ _ _ _ _ _ _ _ _ _ _; rw [← hwy]; exact HZ.out.boxed (Chg.set wz ⟨gp, 4, none⟩ _) (Kind.one hapz) HGP.out.1 HGP.out.2
            have HUY : Hid (NsAt wy x (.slice (some ⟨kz, 0, none⟩) (j + 1) cz) (.slice (some ⟨kz, 0, none⟩) j cz)) := ⟨HUZ.out.eq, by rw [← hwy]; exact row_other HUZ.out.row (Chg.set wz ⟨gp, 4, none⟩ _) (Kind.one hapz) (by decide)⟩
            have hapy : wy.heap[gp]? = some (.cells #[.int .i64 x.id, .int .i64 x.st, .string x.p, .int .i64 x.k, .slice (some ⟨kz, 0, none⟩) j cz] 96 (0, 0)) := by rw [← hwy]; exact same_blk hapz rfl
            have HWY : Hid (wz.setCell ⟨gp, 4, none⟩ (.slice (some ⟨kz, 0, none⟩) j cz) = wy) := hwy
            obtain ⟨z0, z1, z2, z3, z4⟩ := cells_5 hapy
            have HLZ : Hid ((L2.set q (.slice (some ⟨kz, 0, none⟩) (j + 1) cz))[q]? = some (.slice (some ⟨kz, 0, none⟩) (j + 1) cz)) := List.getElem?_set_self (by rw [HL2N.out]; exact hqL)
            clear hd4 hg4 ho4 hal hC4 hKZ hput hwz hcell hsg4 hap4 hapz hwy hapy y0 y1 y2 y3 y4
            go_upto_region 15 with fail
            rw [HWZ.out]
            clear d0 d1 d2 d3 fs4 cs4 b0 b1 b2 b3
            have hjc : (j : Int) ≤ (cz : Int) := by omega
            have hjc2 : j ≤ cz := by omega
            have hjj : (j : Int) ≤ (j : Int) + 1 := by omega
            go_upto_region 16 with fail
            rw [HWY.out]
            clear p0 p1 p2 p3 p4 fp x4
            go_wp2_with (first
              | (at_builtin; refine wpList_row Try.underlying31 Try.info_pa rfl (by decide) rfl _ _ rfl 0 (.slice ma q mc) q _ rfl (owns_below HY.out.m ((Below.refl _ _).alloc (Nat.le_refl _) _)) wy.heap.size 1 (paCs x (.slice (some ⟨kz, 0, none⟩) j cz)) rfl (heap_alloc_new _ _) rfl (by simp [Value.oneCell']) (by unfold maxLen; omega) (by have := HLT.out; omega) (Nat.zero_le _) ?_; intro v7 w7 hd7 hg7 ho7
                 obtain ⟨va, vc, hv7, _⟩ := row_form hd7
                 subst hv7
                 have H7 : Hid (PwI w K l w7 D (q + 1) (.slice ta tn tc) pv nv M (.slice va (q + 1) vc) (.slice (some ⟨sg, 0, none⟩) L2n sc2) (L2.set q (.slice (some ⟨kz, 0, none⟩) (j + 1) cz)) (us ++ [.slice (some ⟨kz, 0, none⟩) j cz])) := HY.out.push ((Below.refl _ _).alloc (Nat.le_refl _) _) HXQ.out HLZ.out HUY.out hd7 hg7 ho7
                 clear hd7 hg7 ho7))
            go_roundw
            case rel => exact ⟨q + 1, va, vc, _, _, _, by go_num, by have := HLT.out; omega, rfl, H7⟩
            case measure => have := HLT.out; simp [intOf]; omega
    · obtain rfl : q = n := by omega
      have hge : ¬ (q : Int) < (q : Int) := by omega
      go_upto_region 18 with (first
        | (at_builtin; refine wpList_row Try.underlying31 Try.info_pa rfl (by decide) rfl _ _ rfl 0 (.slice ma q mc) q _ rfl (owns_below HI1.out.m ((Below.refl _ _).alloc (Nat.le_refl _) _)) wr.heap.size 1 (paCs ⟨777, 0, ⟨#[]⟩, 0, []⟩ (.slice none 0 0)) rfl (heap_alloc_new _ _) rfl (by simp [Value.oneCell']) (by unfold maxLen; omega) (by omega) (Nat.zero_le _) ?_; intro v8 w8 hd8 hg8 ho8))
      obtain ⟨va, vc, hv8, _⟩ := row_form hd8
      subst hv8
      have hal : Below wr.heap.size wr (wr.alloc (.cells (paCs ⟨777, 0, ⟨#[]⟩, 0, []⟩ (.slice none 0 0)).toArray 96)) := (Below.refl _ _).alloc (Nat.le_refl _) _
      have h1 := HI1.out.at hal
      have hc8 := Chg.grown hg8
      have k8 := Kind.own h1.m
      have hbx := blk_other h1.box hc8 k8 (by decide)
      have hcf : Chg w8 (w8.setCell ⟨D, 1, none⟩ (.slice va (q + 1) vc)) (fun k => k = D) := Chg.set w8 ⟨D, 1, none⟩ _
      have kf := Kind.one hbx
      have HEND : Hid (DeskAt (w8.setCell ⟨D, 1, none⟩ (.slice va (q + 1) vc)) D pv (.slice va (q + 1) vc) nv (.slice sa L1.length sc) M L1 ∧ us.length = q ∧ q ≤ L1.length ∧ (w8.setCell ⟨D, 1, none⟩ (.slice va (q + 1) vc)).ownsRow 0 96 5 (.slice va (q + 1) vc) (q + 1) (((l.zip us).flatMap fun x => paCs x.1 x.2) ++ paCs ⟨777, 0, ⟨#[]⟩, 0, []⟩ (.slice none 0 0)) ∧ (∀ (i : Nat) (t : PaT) (r u : Value), l[i]? = some t → L1[i]? = some r → us[i]? = some u → NsAt (w8.setCell ⟨D, 1, none⟩ (.slice va (q + 1) vc)) t r u) ∧ Chg w (w8.setCell ⟨D, 1, none⟩ (.slice va (q + 1) vc)) K ∧ ∀ j, DeskK D pv (.slice va (q + 1) vc) nv (.slice sa L1.length sc) M L1 j → K j ∨ w.heap.size ≤ j) := by
        have hm8 : (w8.setCell ⟨D, 1, none⟩ (.slice va (q + 1) vc)).ownsRow 0 96 5 (.slice va (q + 1) vc) (q + 1) (((l.zip us).flatMap fun x => paCs x.1 x.2) ++ paCs ⟨777, 0, ⟨#[]⟩, 0, []⟩ (.slice none 0 0)) := by
          have := row_other hd8 hcf kf (by decide)
          rw [List.take_of_length_le (by rw [HN.out]; exact Nat.le_refl _)] at this
          exact this
        refine ⟨⟨same_blk hbx rfl, ?_, ⟨_, _, hm8⟩, (h1.ns.other hc8 k8 (by decide) (by decide)).other hcf kf (by decide) (by decide), (h1.ts.other hc8 k8 (by decide) (by decide)).other hcf kf (by decide) (by decide)⟩, HI1.out.len, HI1.out.le, hm8, fun i t r u ht hr hu => ?_, chg_ext (chg_ext h1.chg hc8 HI1.out.km) hcf (fun j e => by have e : j = D := e; rw [e]; exact .inl HKD.out.1), fun j hj => ?_⟩
        · obtain ⟨n', xs', hp⟩ := h1.pv
          exact ⟨n', xs', row_other (row_other hp hc8 k8 (by decide)) hcf kf (by decide)⟩
        · have := h1.each i t r u (by have := (List.getElem?_eq_some_iff.1 ht).1; rw [HN.out] at this; exact this) ht hr hu
          exact ⟨this.eq, row_other (row_other this.row hc8 k8 (by decide)) hcf kf (by decide)⟩
        · rcases hj with hj | hj | hj | hj | hj | ⟨t, ht, hj⟩ | ⟨t, ht, hj⟩
          · rw [hj]; exact .inl HKD.out.1
          · exact .inl (HKD.out.2.1 j hj)
          · rcases ho8 with ho | ho
            · exact HI1.out.km j (by rw [← ho]; exact hj)
            · rw [ho] at hj
              cases hj
              exact .inr (Nat.le_trans HI1.out.chg.size hal.size)
          · exact .inl (HKD.out.2.2.1 j hj)
          · exact HI1.out.ks j hj
          · exact .inl (HKD.out.2.2.2 t ht j hj)
          · exact HI1.out.kl t ht j hj
      obtain ⟨d0, d1, d2, d3⟩ := cells_4 hbx
      have fb := free_of hbx
      clear hd8 hg8 ho8 hal h1 hc8 k8 hbx hcf kf b0 b1 b2 b3
      go_wp2_with fail
      go_ret
      exact ⟨.slice va (q + 1) vc, rfl, _, L1, HEND.out.1, us, HEND.out.2⟩
end Go.Proofs.Ytlidkieljiebiaa
