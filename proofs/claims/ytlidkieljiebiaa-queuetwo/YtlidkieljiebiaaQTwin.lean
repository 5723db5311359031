/-
  heraldlaw10: the desk's twin.
-/
import Derived.Test.YtlidkieljiebiaaQTwinP
import Derived.Deep.CutRange
namespace Go.Proofs.Ytlidkieljiebiaa
open Go.RowKit
set_option linter.unusedVariables false
set_option linter.unusedSimpArgs false

set_option maxHeartbeats 6400000 in
set_option maxRecDepth 100000 in
theorem twin_any (D : Nat) (tv pv sv nv : Value) (L M : List Value) (vl : Value) (l : List TgT) (w : World) (P : Nat → Prop) (h : DeskAt w D tv pv sv nv L M) (hl : TgsAt w P vl l) (hs : TgsSmall l) (ht : TgsTight l) (hP : ∀ j, P j → ¬ DeskK D tv pv sv nv L M j) (hMM : True) :
    Calls Try.prog 50 #[.pointer (some ⟨D, 0, none⟩), vl] w fun e w' => ∃ mv sv' L' us, e = .returned mv ∧ DeskAt w' D mv pv sv' nv L' M ∧ us.length = l.length ∧ l.length ≤ L'.length ∧ w'.ownsRow 0 88 5 mv (l.length + 1) (((l.zip us).flatMap fun x => tgCs x.1 x.2) ++ tgCs ⟨777, ⟨#[]⟩, ⟨#[]⟩, 0, []⟩ (.slice none 0 0)) ∧ (∀ (i : Nat) (t : TgT) (r u : Value), l[i]? = some t → L'[i]? = some r → us[i]? = some u → UsAt w' t r u) ∧ Chg w w' (DeskK D tv pv sv nv L M) ∧ ∀ j, DeskK D mv pv sv' nv L' M j → DeskK D tv pv sv nv L M j ∨ w.heap.size ≤ j := by
  obtain ⟨la, lc, rfl, _⟩ := RowAt.form hl
  obtain ⟨n, hn⟩ : ∃ n, l.length = n := ⟨_, rfl⟩
  obtain ⟨K, hK⟩ : ∃ K, DeskK D tv pv sv nv L M = K := ⟨_, rfl⟩
  have hkd : ∀ j, DeskK D tv pv sv nv L M j → K j := fun j hj => by rw [← hK]; exact hj
  rw [hK] at hP ⊢
  rw [hn] at hl ⊢
  have hn1 : (n + 1) * 72 ≤ 140737488355328 := by have := ht.len; rw [hn] at this; exact this
  obtain ⟨tn, txs, htv⟩ := h.tv
  obtain ⟨ta, tc, rfl, htc⟩ := row_form htv
  have hm0 : w.ownsRow 0 88 5 (.slice ta 0 tc) 0 [] := by
    rcases htv.2 with ⟨hv, h0⟩ | ⟨g, cap, cur, hv, _⟩
    · cases hv; exact owns_nil _ _ _ _
    · cases hv
      have := row_cut htv (Nat.zero_le _)
      simpa using this
  have HI : Hid (TwI w K l w D 0 (.slice ta tn tc) pv nv M (.slice ta 0 tc) sv L []) := ⟨h.box, h.pv, h.ns, h.ts, fun k hk => (row_block htv k hk).2, by simpa using hm0, rfl, Nat.zero_le _, fun i t r u hi => absurd hi (Nat.not_lt_zero _), Chg.refl _ _,
    fun j hj => .inl (hkd j (.inr (.inl (by cases ta with | none => cases hj | some a => exact hj)))), fun j hj => .inl (hkd j (.inr (.inr (.inr (.inl hj))))), fun t ht j hj => .inl (hkd j (.inr (.inr (.inr (.inr (.inr (.inl ⟨t, ht, hj⟩)))))))⟩
  obtain ⟨b0, b1, b2, b3⟩ := cells_4 h.box
  have HN : Hid (l.length = n) := hn
  have HL1 : Hid (TgsAt w P (.slice la n lc) l) := hl
  have HT : Hid (TgsTight l) := ht
  have HP : Hid (∀ j, P j → ¬ K j) := hP
  have HKD : Hid (K D ∧ (∀ k, pv.ownBlock = some k → K k) ∧ (∀ k, nv.ownBlock = some k → K k) ∧ ∀ t ∈ M, ∀ k, t.ownBlock = some k → K k) := ⟨hkd D (.inl rfl), fun k hk => hkd k (.inr (.inr (.inl hk))), fun k hk => hkd k (.inr (.inr (.inr (.inr (.inl hk))))), fun t ht k hk => hkd k (.inr (.inr (.inr (.inr (.inr (.inr ⟨t, ht, hk⟩))))))⟩
  clear h hl hs ht hP hn hkd hK htv hm0 txs hMM
  go_enter Try.func50, Try.ntmps50
  go_wp2_with fail
  clear b0 b1 b2 b3
  go_loopw [5, 6] (fun mv i wr => ∃ (q : Nat) (ma : Option Addr) (mc : Nat) (sv1 : Value) (L1 us : List Value), i = .int .i64 q ∧ q ≤ n ∧ mv = .slice ma q mc ∧ Hid (TwI w K l wr D q (.slice ta tn tc) pv nv M (.slice ma q mc) sv1 L1 us)) (fun _ i _ => n - (intOf i).toNat)
  case atStart => exact ⟨0, ta, tc, sv, L, [], rfl, Nat.zero_le _, rfl, HI⟩
  case round =>
    obtain ⟨q, ma, mc, sv1, L1, us, rfl, hq, rfl, HI1⟩ := hrel
    clear HI
    obtain ⟨b0, b1, b2, b3⟩ := cells_4 HI1.out.box
    obtain ⟨sa, sc, hsv, _⟩ := row_form HI1.out.ts.row
    subst hsv
    by_cases hlt : q < n
    · have hqi : (q : Int) < (n : Int) := by omega
      obtain ⟨x, hx⟩ : ∃ x, l[q]? = some x := ⟨l[q]'(by rw [HN.out]; exact hlt), List.getElem?_eq_getElem _⟩
      obtain ⟨b, o, rfl, hPb, hb, u, e1⟩ := RowAt.get HL1.out hx
      obtain ⟨x0, x1, x2, x3, x4, xt⟩ := e1
      obtain ⟨xa, xc, rfl, _⟩ := RowAt.form xt
      obtain ⟨xn, hxn⟩ : ∃ z, x.tags.length = z := ⟨_, rfl⟩
      rw [hxn] at x4 xt
      have HX : Hid (w.cell? ⟨b, o + q * 5, none⟩ = some (.int .i64 x.k) ∧ w.cell? ⟨b, o + q * 5 + 1, none⟩ = some (.string x.p) ∧ w.cell? ⟨b, o + q * 5 + 2, none⟩ = some (.string x.d) ∧ w.cell? ⟨b, o + q * 5 + 3, none⟩ = some (.int .i64 x.v) ∧ w.cell? ⟨b, o + q * 5 + 4, none⟩ = some (.slice xa xn xc)) := ⟨x0, x1, x2, x3, x4⟩
      have HXT : Hid (IntsAt w P (.slice xa xn xc) x.tags) := xt
      have HXN : Hid (x.tags.length = xn) := hxn
      have HBB : Hid (b < w.heap.size ∧ ¬ K b) := ⟨hb, HP.out b hPb⟩
      have HXQ : Hid (l[q]? = some x) := hx
      have hxn1 : (xn + 1) * 8 ≤ 140737488355328 := by rw [← hxn]; exact HT.out.each x (List.mem_of_getElem? hx)
      obtain ⟨Ln, hLn⟩ : ∃ z, L1.length = z := ⟨_, rfl⟩
      rw [hLn] at b2 HI1
      have HLN : Hid (L1.length = Ln) := hLn
      clear x0 x1 x2 x3 x4 xt hxn hx hb hPb hLn
      go_upto_if 26 with fail
      go_cut [5] from 14 to 92 (fun s5 wc => s5 = .slice ma q mc ∧ ∃ (sv2 : Value) (L2 : List Value), q < L2.length ∧ Hid (TwI w K l wc D q (.slice ta tn tc) pv nv M (.slice ma q mc) sv2 L2 us))
      case first =>
        by_cases hqL : q = Ln
        · subst hqL
          have hmk := make8
          have hD := lt_of_blk HI1.out.box
          have hold : ∀ ob o, (wr.alloc ob).cell? ⟨D, o, none⟩ = wr.cell? ⟨D, o, none⟩ := fun ob o => ((Below.refl wr.heap.size wr).alloc (Nat.le_refl _) ob).cell (p := ⟨D, o, none⟩) hD
          have hold2 : ∀ ob ob' o, ((wr.alloc ob).alloc ob').cell? ⟨D, o, none⟩ = wr.cell? ⟨D, o, none⟩ := fun ob ob' o => (((Below.refl wr.heap.size wr).alloc (Nat.le_refl _) ob).alloc (by simp) ob').cell (p := ⟨D, o, none⟩) hD
          clear hD
          go_wp2_with fail
          go_region_law
            (first
            | (refine step_row Try.underlying69 Try.info_ins rfl (by decide) rfl (.tmp 31) (.tmp 33) rfl 0 (.slice sa q sc) q L1 (by simp [Act.eval, Act.put]) (by have h9 := HI1.out.ts.row; rw [HLN.out] at h9; exact owns_below h9 (((below_drew (Below.refl _ _)).alloc (Nat.le_refl _) _).alloc (by simp) _)) (wr.heap.size + 1) 1 [.slice (some ⟨wr.heap.size, 0, none⟩) 0 8] (by simp [Act.eval, Act.put]) (pair_blocks (w := wr.drew)).2.1 rfl (by simp [Value.oneCell']) (by unfold maxLen; omega) (by omega) (Nat.zero_le _) ?_
               intro v5 w5 hd5 hg5 ho5
               obtain ⟨va, vc, hv5, _⟩ := row_form hd5
               subst hv5
               have hpb := pair_blocks (w := wr.drew) (t := 3) (t' := 29) (cs := #[.int .i64 0, .int .i64 0, .int .i64 0, .int .i64 0, .int .i64 0, .int .i64 0, .int .i64 0, .int .i64 0]) (cs' := #[.slice (some ⟨wr.heap.size, 0, none⟩) 0 8])
               have HG5 : Hid (TwI w K l (w5.setCell ⟨D, 2, none⟩ (.slice va (q + 1) vc)) D q (.slice ta tn tc) pv nv M (.slice ma q mc) (.slice va (q + 1) vc) (L1 ++ [.slice (some ⟨wr.heap.size, 0, none⟩) 0 8]) us) := HI1.out.grow (of_drew hpb.2.2) ⟨rfl, .inr ⟨wr.heap.size, 8, _, rfl, Nat.zero_le _, hpb.1, Nat.zero_le _, by unfold maxLen; decide, rfl, rfl⟩⟩ (Nat.le_refl _) (by rw [HLN.out]; exact hd5) hg5 ho5 HKD.out.1
               have hbx5 := blk_other (blk_other HI1.out.box (Chg.of_below (of_drew hpb.2.2) (fun _ => False)) (f := 3) (fun j hj => hj.elim) (by decide)) (Chg.grown hg5) (Kind.own (by have h9 := HI1.out.ts.row; rw [HLN.out] at h9; exact owns_below h9 (of_drew hpb.2.2))) (by decide)
               obtain ⟨d0, d1, d2, d3⟩ := cells_4 hbx5
               have fb5 := free_of hbx5
               clear hd5 hg5 ho5 hpb hbx5)
            | fail)
          all_goals
            go_wp2_with fail
            go_meet
            case rel => exact ⟨rfl, _, _, by rw [List.length_append, HLN.out]; simp, HG5⟩
        · have dL : ((q : Int) == (Ln : Int)) = false := by simp; omega
          have dLn : (q == Ln) = false := by simp; omega
          have HLE : Hid (q < L1.length) := by have := HI1.out.le; have := HLN.out; show _ < _; omega
          clear hqL
          go_wp2_with fail
          go_meet
          case rel => exact ⟨rfl, _, L1, HLE.out, HI1⟩
      case rest =>
        obtain ⟨rfl, sv2, L2, hqL, HI2⟩ := hcut
        clear HI1 b0 b1 b2 b3
        obtain ⟨sa2, sc2, hsv2, _⟩ := row_form HI2.out.ts.row
        subst hsv2
        obtain ⟨r0, hr0⟩ : ∃ r0, L2[q]? = some r0 := ⟨L2[q]'hqL, List.getElem?_eq_getElem _⟩
        obtain ⟨k0, rn, rc, rxs, rfl, hrow0⟩ := HI2.out.ts.each q r0 hr0
        obtain ⟨sg, scur, rfl, hsg, hcr⟩ := row_get1 HI2.out.ts.row hr0
        have HR0 : Hid (L2[q]? = some (.slice (some ⟨k0, 0, none⟩) rn rc)) := hr0
        have HRW : Hid (wc.ownsRow 0 3 1 (.slice (some ⟨k0, 0, none⟩) 0 rc) 0 []) := by show World.ownsRow _ _ _ _ _ _ _; have := row_cut hrow0 (Nat.zero_le _); simpa using this
        have HK0 : Hid (Kind wc (fun j => j = k0) 3) := by obtain ⟨cu, hcu⟩ := row_kind hrow0 k0 rfl; exact Kind.one hcu
        have HSG : Hid (wc.heap[sg]? = some (.cells scur 29 (0, 0))) := hsg
        have HKK : Hid (K k0 ∨ w.heap.size ≤ k0) := HI2.out.kl _ (List.mem_of_getElem? hr0) k0 rfl
        obtain ⟨b0, b1, b2, b3⟩ := cells_4 HI2.out.box
        obtain ⟨L2n, hL2n⟩ : ∃ z, L2.length = z := ⟨_, rfl⟩
        rw [hL2n] at b2 hqL HI2
        have hql2 : (q : Int) < (L2n : Int) := by omega
        have HL2N : Hid (L2.length = L2n) := hL2n
        clear hr0 hrow0 hsg rxs hL2n
        go_wp2_with fail
        obtain ⟨qo, hqo⟩ : ∃ qo, q = qo := ⟨_, rfl⟩
        rw [hqo] at hlt hqi hqL hql2 hcr ⊢
        have HQO : Hid (q = qo) := hqo
        have HLT : Hid (qo < n) := hlt
        clear hqo
        go_loopw [7, 8] (fun tv k wk => ∃ (j ka kc : Nat), k = .int .i64 j ∧ tv = .slice (some ⟨ka, 0, none⟩) j kc ∧ j ≤ xn ∧ Hid (wk.ownsRow 0 3 1 (.slice (some ⟨ka, 0, none⟩) j kc) j ((x.tags.take j).flatMap fun y => [.int .i64 y])) ∧ Hid (ka = k0 ∨ wc.heap.size ≤ ka) ∧ Hid (Chg wc wk (fun b => b = k0))) (fun _ k _ => xn - (intOf k).toNat)
        case atStart => exact ⟨0, k0, rc, rfl, rfl, Nat.zero_le _, HRW, .inl rfl, Chg.refl _ _⟩
        case round =>
          obtain ⟨j, ka, kc, rfl, rfl, hj, HR, HKA, HCK⟩ := hrel
          have hcw : Chg w wr K := chg_ext HI2.out.chg HCK.out (fun i e => by have e : i = k0 := e; rw [e]; exact HKK.out)
          have hcell : ∀ i v, w.cell? ⟨b, i, none⟩ = some v → wr.cell? ⟨b, i, none⟩ = some v := fun i v hv => by rw [World.cell?_of_block (w := w) (hcw.block b HBB.out.1 HBB.out.2)]; exact hv
          have x4 := hcell _ _ HX.out.2.2.2.2
          rw [HQO.out] at x4
          by_cases hjl : j < xn
          · have hji : (j : Int) < (xn : Int) := by omega
            obtain ⟨y, hy⟩ : ∃ y, x.tags[j]? = some y := ⟨x.tags[j]'(by rw [HXN.out]; exact hjl), List.getElem?_eq_getElem _⟩
            obtain ⟨tb, tof, rfl, hPt, htb, s0⟩ := RowAt.get HXT.out hy
            have s0 : wr.cell? ⟨tb, tof + j, none⟩ = some (.int .i64 y) := by rw [World.cell?_of_block (w := w) (hcw.block tb htb (HP.out tb hPt))]; simpa [inE] using s0
            have HY : Hid ((x.tags.take j).flatMap (fun y => [Value.int .i64 y]) ++ [.int .i64 y] = (x.tags.take (j + 1)).flatMap fun y => [.int .i64 y]) := by show _ = _; rw [take_at hy, List.flatMap_append]; rfl
            clear hy htb hPt hcw hcell
            go_wp2_with (first
              | (at_builtin; refine wpList_row Try.underlying29 Try.infoInt rfl (by decide) rfl _ _ rfl 0 (.slice (some ⟨ka, 0, none⟩) j kc) j _ rfl (owns_below HR.out ((Below.refl _ _).alloc (Nat.le_refl _) _)) wr.heap.size 1 [.int .i64 y] rfl (heap_alloc_new _ _) rfl (by simp [Value.oneCell']) (by unfold maxLen; omega) (by omega) (Nat.zero_le _) ?_; intro v4 w4 hd4 hg4 ho4))
            obtain ⟨ka4, kc4, hv4⟩ := row_some hd4
            subst hv4
            have hal : Below wr.heap.size wr (wr.alloc (.cells #[.int .i64 y] 3)) := (Below.refl _ _).alloc (Nat.le_refl _) _
            have HR4 : Hid (w4.ownsRow 0 3 1 (.slice (some ⟨ka4, 0, none⟩) (j + 1) kc4) (j + 1) ((x.tags.take (j + 1)).flatMap fun y => [.int .i64 y])) := by show World.ownsRow _ _ _ _ _ _ _; rw [← HY.out]; exact hd4
            have HC4 : Hid (Chg wc w4 (fun b => b = k0)) := chg_ext (HCK.out.trans (Chg.of_below hal _)) (Chg.grown hg4) (fun i e => by cases e; exact HKA.out)
            have HKA4 : Hid (ka4 = k0 ∨ wc.heap.size ≤ ka4) := by
              rcases ho4 with e | e
              · cases e; exact HKA.out
              · cases e; exact .inr (Nat.le_trans HCK.out.size hal.size)
            clear hd4 hg4 ho4 hal
            go_roundw
            case rel => exact ⟨j + 1, ka4, kc4, by go_num, rfl, by omega, HR4, HKA4, HC4⟩
            case measure => simp [intOf]; omega
          · obtain rfl : j = xn := by omega
            have hge : ¬ (j : Int) < (j : Int) := by omega
            have x0 := hcell _ _ HX.out.1
            have x1 := hcell _ _ HX.out.2.1
            have x2 := hcell _ _ HX.out.2.2.1
            have x3 := hcell _ _ HX.out.2.2.2.1
            rw [HQO.out] at x0 x1 x2 x3
            have HR2 : Hid (wr.ownsRow 0 3 1 (.slice (some ⟨ka, 0, none⟩) j kc) j (x.tags.flatMap fun y => [.int .i64 y])) := by
              show World.ownsRow _ _ _ _ _ _ _
              have := HR.out
              rw [List.take_of_length_le (by rw [HXN.out]; exact Nat.le_refl _)] at this
              exact this
            clear hcw hcell x0 x1 x2 x3
            go_upto_region 13 with (first
              | (at_builtin; refine wpList_row Try.underlying29 Try.infoInt rfl (by decide) rfl _ _ rfl 0 (.slice (some ⟨ka, 0, none⟩) j kc) j _ rfl (owns_below HR2.out ((Below.refl _ _).alloc (Nat.le_refl _) _)) wr.heap.size 1 [.int .i64 777] rfl (heap_alloc_new _ _) rfl (by simp [Value.oneCell']) (by unfold maxLen; omega) (by omega) (Nat.zero_le _) ?_; intro v4 w4 hd4 hg4 ho4))
            obtain ⟨kz, cz, hv4⟩ := row_some hd4
            subst hv4
            have hal : Below wr.heap.size wr (wr.alloc (.cells #[.int .i64 777] 3)) := (Below.refl _ _).alloc (Nat.le_refl _) _
            have hC4 : Chg wc w4 (fun b => b = k0) := chg_ext (HCK.out.trans (Chg.of_below hal _)) (Chg.grown hg4) (fun i e => by cases e; exact HKA.out)
            have hKZ : kz = k0 ∨ wc.heap.size ≤ kz := by
              rcases ho4 with e | e
              · cases e; exact HKA.out
              · cases e; exact .inr (Nat.le_trans HCK.out.size hal.size)
            have hq' := HQO.out
            subst hq'
            have hput := HI2.out.put (x := x) HR0.out hC4 hKZ (by rw [HXN.out]; exact hd4)
            rw [HXN.out] at hput
            have HZ : Hid _ := hput.1
            have HUZ : Hid _ := hput.2
            have hcz : j + 1 ≤ cz := by obtain ⟨_, _, hv, hh⟩ := row_form hd4; cases hv; exact hh
            obtain ⟨d0, d1, d2, d3⟩ := cells_4 (blk_other HI2.out.box hC4 HK0.out (by decide))
            have fs4 := free_of (blk_other HSG.out hC4 HK0.out (by decide))
            obtain ⟨_, _, he, _, cs4⟩ := row_get1 (by have h9 := row_other HI2.out.ts.row hC4 HK0.out (by decide); rw [HL2N.out] at h9; exact h9) HR0.out
            cases he
            obtain ⟨wz, hwz⟩ : ∃ wz, w4.setCell ⟨sg, q, none⟩ (.slice (some ⟨kz, 0, none⟩) (j + 1) cz) = wz := ⟨_, rfl⟩
            rw [hwz] at HZ HUZ
            have HWZ : Hid (w4.setCell ⟨sg, q, none⟩ (.slice (some ⟨kz, 0, none⟩) (j + 1) cz) = wz) := hwz
            have hcell : ∀ i v, w.cell? ⟨b, i, none⟩ = some v → wz.cell? ⟨b, i, none⟩ = some v := fun i v hv => by rw [World.cell?_of_block (w := w) (HZ.out.chg.block b HBB.out.1 HBB.out.2)]; exact hv
            have x0 := hcell _ _ HX.out.1
            have x1 := hcell _ _ HX.out.2.1
            have x2 := hcell _ _ HX.out.2.2.1
            have x3 := hcell _ _ HX.out.2.2.2.1
            have x4 := hcell _ _ HX.out.2.2.2.2
            have HLZ : Hid ((L2.set q (.slice (some ⟨kz, 0, none⟩) (j + 1) cz))[q]? = some (.slice (some ⟨kz, 0, none⟩) (j + 1) cz)) := List.getElem?_set_self (by rw [HL2N.out]; exact hqL)
            clear hd4 hg4 ho4 hal hC4 hKZ hput hwz hcell
            go_upto_region 14 with fail
            rw [HWZ.out]
            clear d0 d1 d2 d3 fs4 cs4 b0 b1 b2 b3
            have hjc : (j : Int) ≤ (cz : Int) := by omega
            have hjc2 : j ≤ cz := by omega
            have hjj : (j : Int) ≤ (j : Int) + 1 := by omega
            go_region_law
              (first
              | (refine step_row Try.underlying30 Try.info_tg rfl (by decide) rfl (.tmp 76) (.tmp 91) rfl 0 (.slice ma q mc) q _ (by simp [Act.eval, Act.put]) (owns_below HZ.out.m ((below_drew (Below.refl _ _)).alloc (Nat.le_refl _) _)) wz.heap.size 1 (tgCs x (.slice (some ⟨kz, 0, none⟩) j cz)) (by simp [Act.eval, Act.put]) (heap_alloc_new wz.drew _) rfl (by simp [Value.oneCell']) (by unfold maxLen; omega) (by omega) (Nat.zero_le _) ?_
                 intro v7 w7 hd7 hg7 ho7
                 obtain ⟨va, vc, hv7, _⟩ := row_form hd7
                 subst hv7
                 have H7 : Hid (TwI w K l w7 D (q + 1) (.slice ta tn tc) pv nv M (.slice va (q + 1) vc) (.slice (some ⟨sg, 0, none⟩) L2n sc2) (L2.set q (.slice (some ⟨kz, 0, none⟩) (j + 1) cz)) (us ++ [.slice (some ⟨kz, 0, none⟩) j cz])) := HZ.out.push (of_drew ((Below.refl _ _).alloc (Nat.le_refl _) _)) HXQ.out HLZ.out HUZ.out hd7 hg7 ho7
                 clear hd7 hg7 ho7)
              | fail)
            all_goals
              go_wp2_with fail
              exact ⟨⟨q + 1, va, vc, _, _, _, by simp, by have := HLT.out; omega, rfl, H7⟩, by have := HLT.out; simp [intOf]; omega⟩
    · obtain rfl : q = n := by omega
      have hge : ¬ (q : Int) < (q : Int) := by omega
      go_upto_region 16 with (first
        | (at_builtin; refine wpList_row Try.underlying30 Try.info_tg rfl (by decide) rfl _ _ rfl 0 (.slice ma q mc) q _ rfl (owns_below HI1.out.m ((Below.refl _ _).alloc (Nat.le_refl _) _)) wr.heap.size 1 (tgCs ⟨777, ⟨#[]⟩, ⟨#[]⟩, 0, []⟩ (.slice none 0 0)) rfl (heap_alloc_new _ _) rfl (by simp [Value.oneCell']) (by unfold maxLen; omega) (by omega) (Nat.zero_le _) ?_; intro v8 w8 hd8 hg8 ho8))
      obtain ⟨va, vc, hv8, _⟩ := row_form hd8
      subst hv8
      have hal : Below wr.heap.size wr (wr.alloc (.cells (tgCs ⟨777, ⟨#[]⟩, ⟨#[]⟩, 0, []⟩ (.slice none 0 0)).toArray 88)) := (Below.refl _ _).alloc (Nat.le_refl _) _
      have h1 := HI1.out.at hal
      have hc8 := Chg.grown hg8
      have k8 := Kind.own h1.m
      have hbx := blk_other h1.box hc8 k8 (by decide)
      have hcf : Chg w8 (w8.setCell ⟨D, 0, none⟩ (.slice va (q + 1) vc)) (fun k => k = D) := Chg.set w8 ⟨D, 0, none⟩ _
      have kf := Kind.one hbx
      have HEND : Hid (DeskAt (w8.setCell ⟨D, 0, none⟩ (.slice va (q + 1) vc)) D (.slice va (q + 1) vc) pv (.slice sa L1.length sc) nv L1 M ∧ us.length = q ∧ q ≤ L1.length ∧ (w8.setCell ⟨D, 0, none⟩ (.slice va (q + 1) vc)).ownsRow 0 88 5 (.slice va (q + 1) vc) (q + 1) (((l.zip us).flatMap fun x => tgCs x.1 x.2) ++ tgCs ⟨777, ⟨#[]⟩, ⟨#[]⟩, 0, []⟩ (.slice none 0 0)) ∧ (∀ (i : Nat) (t : TgT) (r u : Value), l[i]? = some t → L1[i]? = some r → us[i]? = some u → UsAt (w8.setCell ⟨D, 0, none⟩ (.slice va (q + 1) vc)) t r u) ∧ Chg w (w8.setCell ⟨D, 0, none⟩ (.slice va (q + 1) vc)) K ∧ ∀ j, DeskK D (.slice va (q + 1) vc) pv (.slice sa L1.length sc) nv L1 M j → K j ∨ w.heap.size ≤ j) := by
        have hm8 : (w8.setCell ⟨D, 0, none⟩ (.slice va (q + 1) vc)).ownsRow 0 88 5 (.slice va (q + 1) vc) (q + 1) (((l.zip us).flatMap fun x => tgCs x.1 x.2) ++ tgCs ⟨777, ⟨#[]⟩, ⟨#[]⟩, 0, []⟩ (.slice none 0 0)) := by
          have := row_other hd8 hcf kf (by decide)
          rw [List.take_of_length_le (by rw [HN.out]; exact Nat.le_refl _)] at this
          exact this
        refine ⟨⟨same_blk hbx rfl, ⟨_, _, hm8⟩, ?_, (h1.ts.other hc8 k8 (by decide) (by decide)).other hcf kf (by decide) (by decide), (h1.ns.other hc8 k8 (by decide) (by decide)).other hcf kf (by decide) (by decide)⟩, HI1.out.len, HI1.out.le, hm8, fun i t r u ht hr hu => ?_, chg_ext (chg_ext h1.chg hc8 HI1.out.km) hcf (fun j e => by have e : j = D := e; rw [e]; exact .inl HKD.out.1), fun j hj => ?_⟩
        · obtain ⟨n', xs', hp⟩ := h1.pv
          exact ⟨n', xs', row_other (row_other hp hc8 k8 (by decide)) hcf kf (by decide)⟩
        · have := h1.each i t r u (by have := (List.getElem?_eq_some_iff.1 ht).1; rw [HN.out] at this; exact this) ht hr hu
          exact ⟨this.eq, row_other (row_other this.row hc8 k8 (by decide)) hcf kf (by decide)⟩
        · rcases hj with hj | hj | hj | hj | hj | ⟨t, ht, hj⟩ | ⟨t, ht, hj⟩
          · rw [hj]; exact .inl HKD.out.1
          · rcases ho8 with ho | ho
            · exact HI1.out.km j (by rw [← ho]; exact hj)
            · rw [ho] at hj
              cases hj
              exact .inr (Nat.le_trans HI1.out.chg.size hal.size)
          · exact .inl (HKD.out.2.1 j hj)
          · exact HI1.out.ks j hj
          · exact .inl (HKD.out.2.2.1 j hj)
          · exact HI1.out.kl t ht j hj
          · exact .inl (HKD.out.2.2.2 t ht j hj)
      obtain ⟨d0, d1, d2, d3⟩ := cells_4 hbx
      have fb := free_of hbx
      clear hd8 hg8 ho8 hal h1 hc8 k8 hbx hcf kf b0 b1 b2 b3
      go_wp2_with fail
      go_ret
      exact ⟨.slice va (q + 1) vc, rfl, _, L1, HEND.out.1, us, HEND.out.2⟩
end Go.Proofs.Ytlidkieljiebiaa
