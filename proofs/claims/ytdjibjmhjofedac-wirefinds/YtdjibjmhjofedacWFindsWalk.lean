/-
  WireFinds: the walk.
-/
import Derived.Test.YtdjibjmhjofedacWFinds1
import Derived.Deep.RegionHeld3
namespace Go.Proofs.Ytdjibjmhjofedac
open Go.RowKit
set_option linter.unusedVariables false

set_option maxHeartbeats 3200000 in
set_option maxRecDepth 100000 in
theorem finds_big0 (a0 a1 : Option Addr) (c0 c1 n1 : Nat) (ps : List Pc) (v2 : Value) (w : World) (h0 : Pcs w a0 ps) (hk0 : ps.length ≤ 9223372036854775807) (hm0 : ps.length ≤ 24 → (bodyOf ps).length ≤ 4611686018427387904) (hs : ¬ ((bodyOf ps).length ≤ 20000 ∧ ps.length ≤ 24)) :
    Calls Try.prog 3 #[.slice a0 ps.length c0, .slice a1 n1 c1, v2] w fun e w' => e = .returned (.bool true) ∧ Below w.heap.size w w' := by
  go_enter Try.func3, Try.ntmps3
  go_wp2_with fail
  refine (awake_any w).mono ?_
  rintro e w1 ⟨rfl, hb1⟩
  have HB1 : Hid (Below w.heap.size w w1) := hb1
  have HS : Hid _ := small_any a0 c0 ps w1 (h0.below hb1) hk0 hm0
  rw [decide_eq_false hs] at HS
  clear hb1 h0
  go_wp2_with fail
  refine Calls.mono HS.out ?_
  rintro e w2 ⟨rfl, rfl⟩
  go_wp2_with fail
  go_ret
  exact ⟨rfl, HB1.out⟩

set_option maxHeartbeats 3200000 in
set_option maxRecDepth 100000 in
theorem finds_big1 (a0 a1 : Option Addr) (c0 c1 : Nat) (ps qs : List Pc) (v2 : Value) (w : World) (h0 : Pcs w a0 ps) (h1 : Pcs w a1 qs) (hk1 : qs.length ≤ 9223372036854775807) (hm1 : qs.length ≤ 24 → (bodyOf qs).length ≤ 4611686018427387904) (hs0 : (bodyOf ps).length ≤ 20000 ∧ ps.length ≤ 24) (hs : ¬ ((bodyOf qs).length ≤ 20000 ∧ qs.length ≤ 24)) :
    Calls Try.prog 3 #[.slice a0 ps.length c0, .slice a1 qs.length c1, v2] w fun e w' => e = .returned (.bool true) ∧ Below w.heap.size w w' := by
  go_enter Try.func3, Try.ntmps3
  go_wp2_with fail
  refine (awake_any w).mono ?_
  rintro e w1 ⟨rfl, hb1⟩
  have HB1 : Hid (Below w.heap.size w w1) := hb1
  have HS : Hid _ := small_any a0 c0 ps w1 (h0.below hb1) (by omega) (by omega)
  rw [decide_eq_true hs0] at HS
  have HS1 : Hid _ := small_any a1 c1 qs w1 (h1.below hb1) hk1 hm1
  rw [decide_eq_false hs] at HS1
  clear hb1 h0 h1
  go_wp2_with fail
  refine Calls.mono HS.out ?_
  rintro e w2 ⟨rfl, rfl⟩
  go_wp2_with fail
  refine Calls.mono HS1.out ?_
  rintro e w3 ⟨rfl, rfl⟩
  go_wp2_with fail
  go_ret
  exact ⟨rfl, HB1.out⟩

set_option maxHeartbeats 25600000 in
set_option maxRecDepth 100000 in
theorem finds_small (a0 a1 a2 : Option Addr) (c0 c1 c2 : Nat) (ps qs : List Pc) (zs : List Int) (w : World) (h0 : Pcs w a0 ps) (h1 : Pcs w a1 qs) (h2 : Its w a2 zs) (hs0 : (bodyOf ps).length ≤ 20000 ∧ ps.length ≤ 24) (hs1 : (bodyOf qs).length ≤ 20000 ∧ qs.length ≤ 24) (hz : ∀ z ∈ zs, -9223372036854775808 ≤ z ∧ z ≤ 9223372036854775807) (hzl : zs.length ≤ 9223372036854775807) :
    Calls Try.prog 3 #[.slice a0 ps.length c0, .slice a1 qs.length c1, .slice a2 zs.length c2] w fun e w' => e = .returned (.bool true) ∧ Below w.heap.size w w' := by
  obtain ⟨i0, hi, hz0, hz1, hz2⟩ := info_parts Try.info5
  obtain ⟨SG, hSG⟩ : ∃ SG, SG = segs ps qs := ⟨_, rfl⟩
  have HG1 : Hid (∀ (k : Nat) (p : Pc), ps[k]? = some p → SG[k]? = some (plainL ((qs[k]?.map fun q => q.2.2).getD []), p.2.2)) := fun k p hp => by rw [hSG]; exact segs_at hp
  have HG2 : Hid (SG.length = ps.length) := by rw [hSG]; exact segs_len ps qs
  have HG3 : Hid (∀ k, k ≤ ps.length → (allS (SG.take k)).length ≤ 41000 ∧ skS (SG.take k) ≤ 41000) := fun k hk => by
    have h := segs_bound ps qs k hk
    have := body_le ps k
    have := body_le qs k
    rw [hSG]
    omega
  have hright := segs_right h0 h1 hs0.1
  have HG4 : Hid (Byt (allS SG)) := by rw [hSG]; exact allS_byt _ (fun q hq => (hright q hq).2)
  have HG5 : Hid (dec (allS SG) = (ps.map (fun p => p.2.2), skS SG, (allS SG).length)) := by rw [hSG, ← segs_bodies ps qs]; exact dec_all _ (fun q hq => ⟨(hright q hq).1, (hright q hq).2.1, (hright q hq).2.2.1⟩)
  have HP0 : Hid (Pcs w a0 ps) := h0
  have HP1 : Hid (Pcs w a1 qs) := h1
  have HZ : Hid (Its w a2 zs) := h2
  clear hright hSG h0 h1 h2
  go_enter Try.func3, Try.ntmps3
  go_wp2_with fail
  refine (awake_any w).mono ?_
  rintro e w1 ⟨rfl, hb1⟩
  have HB1 : Hid (Below w.heap.size w w1) := hb1
  have HS : Hid _ := small_any a0 c0 ps w1 (HP0.out.below hb1) (by omega) (by omega)
  rw [decide_eq_true hs0] at HS
  have HS1 : Hid _ := small_any a1 c1 qs w1 (HP1.out.below hb1) (by omega) (by omega)
  rw [decide_eq_true hs1] at HS1
  clear hb1
  go_wp2_with fail
  refine Calls.mono HS.out ?_
  rintro e w2 ⟨rfl, rfl⟩
  go_wp2_with fail
  refine Calls.mono HS1.out ?_
  rintro e w3 ⟨rfl, rfl⟩
  clear HS HS1
  go_wp2_with fail
  go_loopw [7, 8, 9] (fun u sk i wr => ∃ k : Nat, i = .int .i64 k ∧ k ≤ ps.length ∧ sk = .int .i64 ((skS (SG.take k) : Nat) : Int) ∧ Hid (wr.ownsRow w.heap.size 5 1 u (allS (SG.take k)).length (bv (allS (SG.take k)))) ∧ Hid (Below w.heap.size w wr)) (fun _ _ i _ => ps.length - (intOf i).toNat)
  case atStart => exact ⟨0, rfl, Nat.zero_le _, rfl, World.ownsRow_nil _ _ _ _, HB1⟩
  case round =>
    obtain ⟨k, rfl, hkk, rfl, HO, HB⟩ := hrel
    by_cases hlt : k < ps.length
    · obtain ⟨p, hp⟩ : ∃ p, ps[k]? = some p := ⟨ps[k], List.getElem?_eq_getElem hlt⟩
      have hpc : ∃ b o, a0 = some ⟨b, o, none⟩ ∧ b < w.heap.size ∧ w.cell? ⟨b, o + k, none⟩ = some p.val := by
        rcases HP0.out.1 with h | ⟨b, o, rfl, hb, hc⟩
        · rw [h] at hlt; cases hlt
        · exact ⟨b, o, rfl, hb, hc k p hp⟩
      obtain ⟨b0, o0, rfl, hb0, hcp⟩ := hpc
      have hpok := HP0.out.2 p (List.mem_of_getElem? hp)
      have hseg := HG1.out k p hp
      obtain ⟨pa, pc, pys⟩ := p
      rw [Pc.val_eq] at hcp
      have HPW : Hid (∀ W, Below w.heap.size w W → W.cell? ⟨b0, o0 + k, none⟩ = some (.slice pa pys.length pc) ∧ Pc.ok W (pa, pc, pys)) := fun W hb => ⟨(hb.cell (p := ⟨b0, o0 + k, none⟩) hb0).trans hcp, hpok.below hb⟩
      have hpl : pys.length ≤ 20000 := by
        have := Nat.le_trans (body_le ps (k + 1)) hs0.1
        rw [body_step hp, List.length_append] at this
        simp only at this
        omega
      have hl41 := (HG3.out (k + 1) hlt)
      have hlk := (HG3.out k hkk)
      have HF : Hid (∀ W, Below w.heap.size w W → Calls Try.prog 9 #[.slice (some ⟨W.heap.size, 0, none⟩) 1 1] (W.alloc (.cells #[.slice pa pys.length pc] 26)) fun e w' => ∃ a' c', e = .returned (.tuple #[.slice a' (frameL pys).length c', .int .i64 0]) ∧ w'.ownsRow (W.alloc (.cells #[.slice pa pys.length pc] 26)).heap.size 5 1 (.slice a' (frameL pys).length c') (frameL pys).length (bv (frameL pys)) ∧ Below (W.alloc (.cells #[.slice pa pys.length pc] 26)).heap.size (W.alloc (.cells #[.slice pa pys.length pc] 26)) w') := fun W hb => by
        have h := frame_any (some ⟨W.heap.size, 0, none⟩) 1 [(pa, pc, pys)] _ (one_pcs (HPW.out W hb).2.1 (HPW.out W hb).2.2.1 (HPW.out W hb).2.2.2) (by rw [one_body]; omega) (by simp)
        rw [one_body] at h
        exact h
      clear hp hpok hcp
      have hkI : (k : Int) < (ps.length : Int) := by omega
      by_cases hq : k < qs.length
      · obtain ⟨q, hqk⟩ : ∃ q, qs[k]? = some q := ⟨qs[k], List.getElem?_eq_getElem hq⟩
        have hqok := (HP1.out.2 q (List.mem_of_getElem? hqk)).below HB.out
        have hqc : ∃ b o, a1 = some ⟨b, o, none⟩ ∧ wr.cell? ⟨b, o + k, none⟩ = some q.val := by
          rcases HP1.out.1 with h | ⟨b, o, rfl, hb, hc⟩
          · rw [h] at hq; cases hq
          · exact ⟨b, o, rfl, (HB.out.cell (p := ⟨b, o + k, none⟩) hb).trans (hc k q hqk)⟩
        obtain ⟨b1, o1, rfl, hcq⟩ := hqc
        rw [hqk] at hseg
        obtain ⟨qa, qc, qys⟩ := q
        rw [Pc.val_eq] at hcq
        simp only [Option.map_some, Option.getD_some] at hseg
        rw [allS_step hseg, skS_step hseg] at hl41
        simp only [List.length_append, plain_len, frame_len] at hl41
        have HSEG : Hid (SG[k]? = some (plainL qys, pys)) := hseg
        have HQ : Hid _ := plain_any qa qc qys wr hqok.1 hqok.2.1 (by omega)
        clear hqok hqk hseg
        go_wp2_with fail
        refine Calls.mono HQ.out ?_
        rintro e w1 ⟨v1, rfl, hrow1, hb1⟩
        clear HQ
        obtain ⟨va, vc, rfl, hby1, hnn1, -, -, -⟩ := bys_of_owns hrow1
        have HBY1 : Hid (Bys w1 va (plainL qys)) := hby1
        have HO1 : Hid _ := owns_fr HO.out (Fr.of_below hb1 (fun _ => False)) (fun _ _ h => h)
        have HB1' : Hid (Below w.heap.size w w1) := trans2 HB.out hb1
        have hpl1 : (plainL qys).length = qys.length := plain_len qys
        obtain ⟨PQ, hPQ⟩ : ∃ PQ, PQ = plainL qys := ⟨_, rfl⟩
        rw [← hPQ] at HBY1 HSEG hpl1
        rw [← hPQ]
        clear hrow1 hb1 hby1 hPQ
        obtain ⟨AK, hAK⟩ : ∃ AK, AK = allS (SG.take k) := ⟨_, rfl⟩
        have HAK : Hid (AK = allS (SG.take k)) := hAK
        rw [← hAK] at HO1 hl41 hlk
        clear hAK
        have hx1 : AK.length + PQ.length ≤ 10000000 := by omega
        have hs1' : w.heap.size ≤ w1.heap.size := HB1'.out.size
        have hskb : skS (SG.take k) + PQ.length ≤ 41000 := by omega
        have hl42 : AK.length + PQ.length + (pys.length + 14) ≤ 41000 := by omega
        clear hpl1 hl41
        go_wp2_with (first | (at_builtin; refine wpList_app rfl _ _ rfl w.heap.size u7 AK rfl HO1.out va PQ.length vc PQ rfl rfl HBY1.out hnn1 hx1 hs1' ?_; intro v2 w2 ho2 hg2; obtain ⟨va2, vc2, rfl, -, -, -, -, -⟩ := bys_of_owns ho2; have HO2 : Hid _ := ho2; have HB2 : Hid (Below w.heap.size w w2) := HB1'.out.grown hg2 hs1' (fun j hj => (World.ownsRow.lt HO1.out j hj).1); clear ho2 hg2; obtain ⟨hcp2, -⟩ := HPW.out w2 HB2.out) | fail)
        have HO2' : Hid (w2.ownsRow w.heap.size 5 1 (.slice va2 (AK.length + PQ.length) vc2) (AK ++ PQ).length (bv (AK ++ PQ))) := by rw [← List.length_append]; exact HO2.out
        refine Calls.mono (HF.out w2 HB2.out) ?_
        rintro e w5 ⟨fa, fc, rfl, hrow5, hb5⟩
        obtain ⟨fa', fc', hfv, hby5, hnn5, -, -, -⟩ := bys_of_owns hrow5
        obtain ⟨rfl, -, rfl⟩ := Value.slice.inj hfv
        have HBY5 : Hid (Bys w5 fa (frameL pys)) := hby5
        have hbA : Below w2.heap.size w2 w5 := trans2 ((Below.refl _ w2).alloc (Nat.le_refl _) _) hb5
        have HO5 : Hid (w5.ownsRow w.heap.size 5 1 (.slice va2 (AK.length + PQ.length) vc2) (AK ++ PQ).length (bv (AK ++ PQ))) := owns_fr HO2'.out (Fr.of_below hbA (fun _ => False)) (fun _ _ h => h)
        have HB5 : Hid (Below w.heap.size w w5) := trans2 HB2.out hbA
        have hfl5 : (frameL pys).length = pys.length + 14 := frame_len pys
        have hx5 : (AK ++ PQ).length + (frameL pys).length ≤ 10000000 := by rw [List.length_append]; omega
        have hs5 : w.heap.size ≤ w5.heap.size := HB5.out.size
        obtain ⟨FL, hFL⟩ : ∃ FL, FL = frameL pys := ⟨_, rfl⟩
        rw [← hFL] at HBY5 hx5
        rw [← hFL]
        have HFL : Hid (FL = frameL pys) := hFL
        clear hrow5 hb5 hbA hby5 hfv hFL hfl5 HF
        go_wp2_with (first | (at_builtin; refine wpList_app rfl _ _ rfl w.heap.size (.slice va2 (AK.length + PQ.length) vc2) (AK ++ PQ) rfl HO5.out fa FL.length fc FL rfl rfl HBY5.out hnn5 hx5 hs5 ?_; intro v6 w6 ho6 hg6; have HO6 : Hid _ := ho6; have HB6 : Hid (Below w.heap.size w w6) := HB5.out.grown hg6 hs5 (fun j hj => (World.ownsRow.lt HO5.out j hj).1); clear ho6 hg6) | fail)
        go_roundw
        case rel => exact ⟨k + 1, by go_num, by omega, by rw [skS_step HSEG.out]; go_num, by rw [allS_step HSEG.out, ← HAK.out, ← HFL.out]; exact HO6.out, HB6⟩
        case measure => simp [intOf]; omega
      · have hqn : qs[k]? = none := List.getElem?_eq_none (by omega)
        rw [hqn] at hseg
        simp only [Option.map_none, Option.getD_none] at hseg
        rw [show plainL [] = [] from rfl] at hseg
        rw [allS_step hseg] at hl41
        simp only [List.length_append, List.length_nil, frame_len] at hl41
        have HSEG : Hid (SG[k]? = some ([], pys)) := hseg
        have hqI : ¬ (k : Int) < (qs.length : Int) := by omega
        obtain ⟨hcp2, -⟩ := HPW.out wr HB.out
        obtain ⟨AK, hAK⟩ : ∃ AK, AK = allS (SG.take k) := ⟨_, rfl⟩
        have HAK : Hid (AK = allS (SG.take k)) := hAK
        rw [← hAK] at HO hl41 hlk
        clear hAK hseg hqn
        go_wp2_with fail
        refine Calls.mono (HF.out wr HB.out) ?_
        rintro e w5 ⟨fa, fc, rfl, hrow5, hb5⟩
        obtain ⟨fa', fc', hfv, hby5, hnn5, -, -, -⟩ := bys_of_owns hrow5
        obtain ⟨rfl, -, rfl⟩ := Value.slice.inj hfv
        have HBY5 : Hid (Bys w5 fa (frameL pys)) := hby5
        have hbA : Below wr.heap.size wr w5 := trans2 ((Below.refl _ wr).alloc (Nat.le_refl _) _) hb5
        have HO5 : Hid (w5.ownsRow w.heap.size 5 1 u7 (AK).length (bv (AK))) := owns_fr HO.out (Fr.of_below hbA (fun _ => False)) (fun _ _ h => h)
        have HB5 : Hid (Below w.heap.size w w5) := trans2 HB.out hbA
        have hfl5 : (frameL pys).length = pys.length + 14 := frame_len pys
        have hx5 : (AK).length + (frameL pys).length ≤ 10000000 := by omega
        have hs5 : w.heap.size ≤ w5.heap.size := HB5.out.size
        obtain ⟨FL, hFL⟩ : ∃ FL, FL = frameL pys := ⟨_, rfl⟩
        rw [← hFL] at HBY5 hx5
        rw [← hFL]
        have HFL : Hid (FL = frameL pys) := hFL
        clear hrow5 hb5 hbA hby5 hfv hFL hfl5 HF
        go_wp2_with (first | (at_builtin; refine wpList_app rfl _ _ rfl w.heap.size u7 (AK) rfl HO5.out fa FL.length fc FL rfl rfl HBY5.out hnn5 hx5 hs5 ?_; intro v6 w6 ho6 hg6; have HO6 : Hid _ := ho6; have HB6 : Hid (Below w.heap.size w w6) := HB5.out.grown hg6 hs5 (fun j hj => (World.ownsRow.lt HO5.out j hj).1); clear ho6 hg6) | fail)
        go_roundw
        case rel => exact ⟨k + 1, by go_num, by omega, by rw [skS_step HSEG.out]; rfl, by rw [allS_step HSEG.out, ← HAK.out, ← HFL.out, List.append_nil]; exact HO6.out, HB6⟩
        case measure => simp [intOf]; omega
    · obtain hkk2 := hkk
      obtain rfl : k = ps.length := by omega
      obtain ⟨A, hA⟩ : ∃ A, A = allS SG := ⟨_, rfl⟩
      have hall : SG.take ps.length = SG := by rw [← HG2.out, List.take_length]
      rw [hall, ← hA] at HO
      have hlA := HG3.out ps.length (Nat.le_refl _)
      rw [hall, ← hA] at hlA
      have HSK : Hid (skS SG = (dec A).2.1) := by rw [hA]; exact (congrArg (fun d : List (List Int) × Nat × Nat => d.2.1) HG5.out).symm
      have HDA : Hid ((dec A).1 = ps.map (fun p => p.2.2)) := by rw [hA]; exact congrArg (fun d : List (List Int) × Nat × Nat => d.1) HG5.out
      have hdl : (dec A).1.length = ps.length := by rw [HDA.out, List.length_map]
      rw [hall]
      have HBA : Hid (Byt A) := by rw [hA]; exact HG4.out
      obtain ⟨SK, hSK⟩ : ∃ SK, SK = skS SG := ⟨_, rfl⟩
      rw [← hSK] at HSK hlA
      rw [← hSK]
      have HFI : Hid _ := FindI.start HO.out HB.out
      clear hA hall hSK HG1 HG2 HG3 HG4 HG5 HB1 HO
      have hdl24 : (dec A).1.length ≤ 24 := by omega
      have hdsk : (dec A).2.1 ≤ 41000 := by rw [← HSK.out]; omega
      clear hdl
      have hshape : (u7 = .slice none 0 0 ∧ A = []) ∨ ∃ ag acap, u7 = .slice (some ⟨ag, 0, none⟩) A.length acap ∧ A.length ≤ acap ∧ acap ≤ maxLen := by
        have h := HFI.out.row
        rcases h.2 with ⟨h1, h2⟩ | ⟨g, cap, cur, h1, _, _, h2, h3, _⟩
        · exact .inl ⟨h1, List.eq_nil_of_length_eq_zero h2⟩
        · exact .inr ⟨g, cap, h1, h2, h3⟩
      have HSH : Hid _ := hshape
      clear hshape
      go_wp2_with fail
      generalize wr.heap.size = zb at HFI ⊢
      go_loopw [14, 15, 16] (fun t f i W => ∃ (n k : Nat) (rv fv : Value) (T fs : List (Value × List Int)), t = .int .i64 n ∧ i = .int .i64 k ∧ n ≤ A.length ∧ k ≤ 24 ∧ Hid (FindI w zb u7 A n f T rv fv T fs W)) (fun _ _ i _ => 24 - (intOf i).toNat)
      case atStart => exact ⟨0, 0, _, _, [], [], rfl, rfl, Nat.zero_le _, Nat.zero_le _, HFI⟩
      case round =>
        obtain ⟨n, k, rv, fv, T, fs, rfl, rfl, hn, hk24, HI⟩ := hrel
        have hnI : (n : Int) ≤ (A.length : Int) := by omega
        have HFEW : Hid _ := HI.out.few
        have hfs : fs.length ≤ 24 := by have := HFEW.out.1; omega
        have hskn : (dec (A.take n)).2.1 ≤ 41000 := by have := HFEW.out.2; omega
        have HTL : Hid ((A.take n).length = n) := by show _ = _; rw [List.length_take]; omega
        by_cases hgo : k < zs.length ∧ k < 24
        · obtain ⟨z, hzk⟩ : ∃ z, zs[k]? = some z := ⟨zs[k]'hgo.1, List.getElem?_eq_getElem hgo.1⟩
          have hzb := hz z (List.mem_of_getElem? hzk)
          have hzc : ∃ b o, a2 = some ⟨b, o, none⟩ ∧ wr.cell? ⟨b, o + k, none⟩ = some (.int .i64 z) := by
            rcases HZ.out with h | ⟨b, o, h, hb, hc⟩
            · rw [h] at hzk; cases hzk
            · exact ⟨b, o, h, (HI.out.bel.cell (p := ⟨b, o + k, none⟩) hb).trans (hc k z hzk)⟩
          obtain ⟨zb2, zo2, hza, hcz⟩ := hzc
          subst hza
          have hkz : (k : Int) < (zs.length : Int) := by omega
          have hk24I : (k : Int) < 24 := by omega
          clear hzk
          by_cases hneg : z < 0
          · go_wp2_with fail
            exact ⟨⟨n, k + 1, rv, fv, T, fs, rfl, by go_num, hn, by omega, HI⟩, by simp [intOf]; omega⟩
          · rcases HSH.out with ⟨hu, hA0⟩ | ⟨ag, acap, hu, hac, hacm⟩
            · subst hu
              subst hA0
              obtain rfl : n = 0 := by simpa using hn
              by_cases hb0 : 0 < z
              · go_wp2_with fail
                exact ⟨⟨0, k + 1, rv, fv, T, fs, rfl, by go_num, hn, by omega, HI⟩, by simp [intOf]; omega⟩
              · obtain rfl : z = 0 := by omega
                have HYT : Hid (List.take 0 ([] : List Int) ++ [] = List.take 0 []) := rfl
                have HFEED : Hid _ := feed_st zb (dec (List.take 0 ([] : List Int))).2.1 0 none rv fv _ [] fs wr HI.out.st.st HI.out.st.code (.inl rfl) (fun z hz => nomatch hz) (by simp) (by simp) (by unfold maxLen; omega) (by simp; omega) (by omega)
                go_wp2_with fail
                refine Calls.mono HFEED.out ?_
                rintro e w1 ⟨⟨v1, rfl⟩, rv1, fv1, gs1, hF1⟩
                have HI1 : Hid (FindI w zb (.slice none 0 0) [] 0 u15 T rv1 fv1 T (fs ++ gs1) w1) := HI.out.fed hF1 HYT.out
                clear hF1 HFEED HYT
                have HFEW1 : Hid _ := HI1.out.few
                have hfs1 : (fs ++ gs1).length ≤ 24 := by have := HFEW1.out.1; omega
                have HTK : Hid _ := taken_st zb (dec (List.take 0 [])).2.1 rv1 fv1 _ (fs ++ gs1) 1000 w1 HI1.out.st.st (by decide) (by omega)
                have HONE : Hid (∀ u ∈ (fs ++ gs1).map (fun p => p.1), u.oneCell' = true) := fun u hu => by
                  obtain ⟨p, hp, rfl⟩ := List.mem_map.1 hu
                  obtain ⟨a, n, c, h⟩ := owns_slice (HI1.out.st.st.each p hp).1
                  rw [h]; rfl
                have hTl : T.length ≤ 24 := by have := HFEW1.out.1; omega
                go_wp2_with fail
                · refine Calls.mono HTK.out ?_
                  rintro e w2 ⟨kk, lv, fv2, rfl, hk1, hk2, hk3, hT⟩
                  obtain rfl : kk = (fs ++ gs1).length := hk3 (by omega)
                  have HI2 : Hid _ := HI1.out.took hT
                  rw [List.take_length, List.drop_length] at HI2
                  obtain ⟨VL, hVL⟩ : ∃ VL, VL = (fs ++ gs1).map (fun p => p.1) := ⟨_, rfl⟩
                  obtain ⟨TV, hTV⟩ : ∃ TV, TV = T.map (fun p => p.1) := ⟨_, rfl⟩
                  have HVL : Hid (VL = (fs ++ gs1).map (fun p => p.1)) := hVL
                  have HTV : Hid (TV = T.map (fun p => p.1)) := hTV
                  have HLV : Hid (w2.ownsRow w1.heap.size 26 1 lv VL.length VL) := by
                    have h := hT.row
                    rw [List.take_length] at h
                    rw [hVL, List.length_map]
                    exact h
                  have HTO : Hid (w2.ownsRow w.heap.size 26 1 u15 TV.length TV) := by rw [hTV, List.length_map]; exact HI2.out.fnd
                  have hlen2 : TV.length + VL.length ≤ 1000000 := by rw [hTV, hVL, List.length_map, List.length_map]; omega
                  have hs2 : w.heap.size ≤ w2.heap.size := HI2.out.bel.size
                  rw [← hVL] at HONE
                  obtain ⟨la, ln, lc, rfl⟩ := owns_slice HLV.out
                  clear hT hk1 hk2 hk3 HTK hVL hTV
                  go_wp2_with (first | (at_builtin; refine wpList_app2 rfl _ _ rfl w.heap.size w1.heap.size u15 (.slice la ln lc) TV VL rfl HTO.out rfl HLV.out HONE.out hlen2 hs2 ?_; intro f6 w6 ho6 hg6 hf6; have HO6 : Hid _ := ho6; have HG6 : Hid _ := hg6; have HF6 : Hid _ := hf6; clear ho6 hg6 hf6) | fail)
                  have HI6 : Hid (FindI w zb (.slice none 0 0) [] 0 f6 (T ++ (fs ++ gs1)) rv1 fv2 (T ++ (fs ++ gs1)) [] w6) := HI2.out.app (by rw [← HTV.out, ← HVL.out]; exact HO6.out) HG6.out HF6.out
                  exact ⟨⟨0, k + 1, rv1, fv2, T ++ (fs ++ gs1), [], by go_num, by go_num, by omega, by omega, HI6⟩, by simp [intOf]; omega⟩
                · exact ⟨⟨0, k + 1, rv1, fv1, T, fs ++ gs1, by go_num, by go_num, by omega, by omega, HI1⟩, by simp [intOf]; omega⟩
            · by_cases hbig : (A.length : Int) - (n : Int) < z
              · subst hu
                go_wp2_with fail
                exact ⟨⟨n, k + 1, rv, fv, T, fs, rfl, by go_num, hn, by omega, HI⟩, by simp [intOf]; omega⟩
              · obtain ⟨m, rfl⟩ : ∃ m : Nat, z = (m : Int) := ⟨z.toNat, by omega⟩
                have hnm : n + m ≤ A.length := by omega
                subst hu
                have hacI : (A.length : Int) ≤ (acap : Int) := by omega
                have hnmI : (n : Int) + (m : Int) ≤ (A.length : Int) := by omega
                have hacm2 := hacm
                unfold maxLen at hacm2
                obtain ⟨ys, hys⟩ : ∃ ys, ys = (A.drop n).take m := ⟨_, rfl⟩
                have hyl : ys.length = m := by rw [hys, List.length_take, List.length_drop]; omega
                have HYT : Hid (A.take n ++ ys = A.take (n + m)) := by show _ = _; rw [hys, List.take_add]
                have hyb : Byt ys := fun z hz => HBA.out z (by rw [hys] at hz; exact List.mem_of_mem_drop (List.mem_of_mem_take hz))
                have hxl : ((A.take n).drop (dec (A.take n)).2.2).length ≤ n := by rw [List.length_drop, HTL.out]; omega
                by_cases hnc : n = acap
                · have hm0 : m = 0 := by omega
                  subst hm0
                  have hys0 : ys = [] := List.eq_nil_of_length_eq_zero hyl
                  have hfeed := feed_st zb (dec (A.take n)).2.1 0 (some ⟨ag, 0, none⟩) rv fv _ ys fs wr HI.out.st.st HI.out.st.code (.inl hys0) hyb (by omega) (by omega) (by omega) (by omega) (by omega)
                  rw [hyl] at hfeed
                  have HFEED : Hid _ := hfeed
                  clear hfeed hys hyl hyb hxl hys0
                  have hnc2 := hnc.symm
                  clear hnc
                  subst hnc2
                  go_wp2_with fail
                  refine Calls.mono HFEED.out ?_
                  rintro e w1 ⟨⟨v1, rfl⟩, rv1, fv1, gs1, hF1⟩
                  have HI1 : Hid (FindI w zb (.slice (some ⟨ag, 0, none⟩) A.length acap) A (acap + 0) u15 T rv1 fv1 T (fs ++ gs1) w1) := HI.out.fed hF1 HYT.out
                  clear hF1 HFEED HYT
                  have HFEW1 : Hid _ := HI1.out.few
                  have hfs1 : (fs ++ gs1).length ≤ 24 := by have := HFEW1.out.1; omega
                  have HTK : Hid _ := taken_st zb (dec (List.take (acap + 0) A)).2.1 rv1 fv1 _ (fs ++ gs1) 1000 w1 HI1.out.st.st (by decide) (by omega)
                  have HONE : Hid (∀ u ∈ (fs ++ gs1).map (fun p => p.1), u.oneCell' = true) := fun u hu => by
                    obtain ⟨p, hp, rfl⟩ := List.mem_map.1 hu
                    obtain ⟨a, n, c, h⟩ := owns_slice (HI1.out.st.st.each p hp).1
                    rw [h]; rfl
                  have hTl : T.length ≤ 24 := by have := HFEW1.out.1; omega
                  go_wp2_with fail
                  · refine Calls.mono HTK.out ?_
                    rintro e w2 ⟨kk, lv, fv2, rfl, hk1, hk2, hk3, hT⟩
                    obtain rfl : kk = (fs ++ gs1).length := hk3 (by omega)
                    have HI2 : Hid _ := HI1.out.took hT
                    rw [List.take_length, List.drop_length] at HI2
                    obtain ⟨VL, hVL⟩ : ∃ VL, VL = (fs ++ gs1).map (fun p => p.1) := ⟨_, rfl⟩
                    obtain ⟨TV, hTV⟩ : ∃ TV, TV = T.map (fun p => p.1) := ⟨_, rfl⟩
                    have HVL : Hid (VL = (fs ++ gs1).map (fun p => p.1)) := hVL
                    have HTV : Hid (TV = T.map (fun p => p.1)) := hTV
                    have HLV : Hid (w2.ownsRow w1.heap.size 26 1 lv VL.length VL) := by
                      have h := hT.row
                      rw [List.take_length] at h
                      rw [hVL, List.length_map]
                      exact h
                    have HTO : Hid (w2.ownsRow w.heap.size 26 1 u15 TV.length TV) := by rw [hTV, List.length_map]; exact HI2.out.fnd
                    have hlen2 : TV.length + VL.length ≤ 1000000 := by rw [hTV, hVL, List.length_map, List.length_map]; omega
                    have hs2 : w.heap.size ≤ w2.heap.size := HI2.out.bel.size
                    rw [← hVL] at HONE
                    obtain ⟨la, ln, lc, rfl⟩ := owns_slice HLV.out
                    clear hT hk1 hk2 hk3 HTK hVL hTV
                    go_wp2_with (first | (at_builtin; refine wpList_app2 rfl _ _ rfl w.heap.size w1.heap.size u15 (.slice la ln lc) TV VL rfl HTO.out rfl HLV.out HONE.out hlen2 hs2 ?_; intro f6 w6 ho6 hg6 hf6; have HO6 : Hid _ := ho6; have HG6 : Hid _ := hg6; have HF6 : Hid _ := hf6; clear ho6 hg6 hf6) | fail)
                    have HI6 : Hid (FindI w zb (.slice (some ⟨ag, 0, none⟩) A.length acap) A (acap + 0) f6 (T ++ (fs ++ gs1)) rv1 fv2 (T ++ (fs ++ gs1)) [] w6) := HI2.out.app (by rw [← HTV.out, ← HVL.out]; exact HO6.out) HG6.out HF6.out
                    exact ⟨⟨(acap + 0), k + 1, rv1, fv2, T ++ (fs ++ gs1), [], by go_num, by go_num, by omega, by omega, HI6⟩, by simp [intOf]; omega⟩
                  · exact ⟨⟨(acap + 0), k + 1, rv1, fv1, T, fs ++ gs1, by go_num, by go_num, by omega, by omega, HI1⟩, by simp [intOf]; omega⟩
                · have hncI : (n : Int) < (acap : Int) := by omega
                  have hnc3 : ¬ acap = n := fun e => hnc e.symm
                  have hfeed := feed_st zb (dec (A.take n)).2.1 (acap - n) (some ⟨ag, n, none⟩) rv fv _ ys fs wr HI.out.st.st HI.out.st.code (by rw [hys]; exact piece_bys HI.out.row) hyb (by omega) (by omega) (by omega) (by omega) (by omega)
                  rw [hyl] at hfeed
                  have HFEED : Hid _ := hfeed
                  clear hfeed hys hyl hyb hxl
                  go_wp2_with fail
                  refine Calls.mono HFEED.out ?_
                  rintro e w1 ⟨⟨v1, rfl⟩, rv1, fv1, gs1, hF1⟩
                  have HI1 : Hid (FindI w zb (.slice (some ⟨ag, 0, none⟩) A.length acap) A (n + m) u15 T rv1 fv1 T (fs ++ gs1) w1) := HI.out.fed hF1 HYT.out
                  clear hF1 HFEED HYT
                  have HFEW1 : Hid _ := HI1.out.few
                  have hfs1 : (fs ++ gs1).length ≤ 24 := by have := HFEW1.out.1; omega
                  have HTK : Hid _ := taken_st zb (dec (List.take (n + m) A)).2.1 rv1 fv1 _ (fs ++ gs1) 1000 w1 HI1.out.st.st (by decide) (by omega)
                  have HONE : Hid (∀ u ∈ (fs ++ gs1).map (fun p => p.1), u.oneCell' = true) := fun u hu => by
                    obtain ⟨p, hp, rfl⟩ := List.mem_map.1 hu
                    obtain ⟨a, n, c, h⟩ := owns_slice (HI1.out.st.st.each p hp).1
                    rw [h]; rfl
                  have hTl : T.length ≤ 24 := by have := HFEW1.out.1; omega
                  go_wp2_with fail
                  · refine Calls.mono HTK.out ?_
                    rintro e w2 ⟨kk, lv, fv2, rfl, hk1, hk2, hk3, hT⟩
                    obtain rfl : kk = (fs ++ gs1).length := hk3 (by omega)
                    have HI2 : Hid _ := HI1.out.took hT
                    rw [List.take_length, List.drop_length] at HI2
                    obtain ⟨VL, hVL⟩ : ∃ VL, VL = (fs ++ gs1).map (fun p => p.1) := ⟨_, rfl⟩
                    obtain ⟨TV, hTV⟩ : ∃ TV, TV = T.map (fun p => p.1) := ⟨_, rfl⟩
                    have HVL : Hid (VL = (fs ++ gs1).map (fun p => p.1)) := hVL
                    have HTV : Hid (TV = T.map (fun p => p.1)) := hTV
                    have HLV : Hid (w2.ownsRow w1.heap.size 26 1 lv VL.length VL) := by
                      have h := hT.row
                      rw [List.take_length] at h
                      rw [hVL, List.length_map]
                      exact h
                    have HTO : Hid (w2.ownsRow w.heap.size 26 1 u15 TV.length TV) := by rw [hTV, List.length_map]; exact HI2.out.fnd
                    have hlen2 : TV.length + VL.length ≤ 1000000 := by rw [hTV, hVL, List.length_map, List.length_map]; omega
                    have hs2 : w.heap.size ≤ w2.heap.size := HI2.out.bel.size
                    rw [← hVL] at HONE
                    obtain ⟨la, ln, lc, rfl⟩ := owns_slice HLV.out
                    clear hT hk1 hk2 hk3 HTK hVL hTV
                    go_wp2_with (first | (at_builtin; refine wpList_app2 rfl _ _ rfl w.heap.size w1.heap.size u15 (.slice la ln lc) TV VL rfl HTO.out rfl HLV.out HONE.out hlen2 hs2 ?_; intro f6 w6 ho6 hg6 hf6; have HO6 : Hid _ := ho6; have HG6 : Hid _ := hg6; have HF6 : Hid _ := hf6; clear ho6 hg6 hf6) | fail)
                    have HI6 : Hid (FindI w zb (.slice (some ⟨ag, 0, none⟩) A.length acap) A (n + m) f6 (T ++ (fs ++ gs1)) rv1 fv2 (T ++ (fs ++ gs1)) [] w6) := HI2.out.app (by rw [← HTV.out, ← HVL.out]; exact HO6.out) HG6.out HF6.out
                    exact ⟨⟨(n + m), k + 1, rv1, fv2, T ++ (fs ++ gs1), [], by go_num, by go_num, by omega, by omega, HI6⟩, by simp [intOf]; omega⟩
                  · exact ⟨⟨(n + m), k + 1, rv1, fv1, T, fs ++ gs1, by go_num, by go_num, by omega, by omega, HI1⟩, by simp [intOf]; omega⟩
        · rcases (show (zs.length : Int) ≤ (k : Int) ∨ ((k : Int) < (zs.length : Int) ∧ (24 : Int) ≤ (k : Int)) by omega) with hx1 | ⟨hx1, hx2⟩
          · rcases HSH.out with ⟨hu, hA0⟩ | ⟨ag, acap, hu, hac, hacm⟩
            · subst hu
              subst hA0
              obtain rfl : n = 0 := by simpa using hn
              have HYT : Hid (List.take 0 ([] : List Int) ++ [] = List.take ([] : List Int).length []) := rfl
              have HFEED : Hid _ := feed_st zb (dec (List.take 0 ([] : List Int))).2.1 0 none rv fv _ [] fs wr HI.out.st.st HI.out.st.code (.inl rfl) (fun z hz => nomatch hz) (by simp) (by simp) (by unfold maxLen; omega) (by simp; omega) (by omega)
              go_wp2_with fail
              refine Calls.mono HFEED.out ?_
              rintro e w1 ⟨⟨v1, rfl⟩, rv1, fv1, gs1, hF1⟩
              have HI1 : Hid (FindI w zb (.slice none 0 0) [] ([] : List Int).length u15 T rv1 fv1 T (fs ++ gs1) w1) := HI.out.fed hF1 HYT.out
              clear hF1 HFEED HYT
              have HFEW1 : Hid _ := HI1.out.few
              have hfs1 : (fs ++ gs1).length ≤ 24 := by have := HFEW1.out.1; omega
              have hTl : T.length ≤ 24 := by have := HFEW1.out.1; omega
              have HTK : Hid _ := taken_st zb (dec (List.take ([] : List Int).length [])).2.1 rv1 fv1 _ (fs ++ gs1) 1000 w1 HI1.out.st.st (by decide) (by omega)
              have HONE : Hid (∀ u ∈ (fs ++ gs1).map (fun p => p.1), u.oneCell' = true) := fun u hu => by
                obtain ⟨p, hp, rfl⟩ := List.mem_map.1 hu
                obtain ⟨a, n, c, h⟩ := owns_slice (HI1.out.st.st.each p hp).1
                rw [h]; rfl
              go_wp2_with fail
              refine Calls.mono HTK.out ?_
              rintro e w2 ⟨kk, lv, fv2, rfl, hk1, hk2, hk3, hT⟩
              obtain rfl : kk = (fs ++ gs1).length := hk3 (by omega)
              have HI2 : Hid _ := HI1.out.took hT
              rw [List.take_length, List.drop_length] at HI2
              obtain ⟨VL, hVL⟩ : ∃ VL, VL = (fs ++ gs1).map (fun p => p.1) := ⟨_, rfl⟩
              obtain ⟨TV, hTV⟩ : ∃ TV, TV = T.map (fun p => p.1) := ⟨_, rfl⟩
              have HVL : Hid (VL = (fs ++ gs1).map (fun p => p.1)) := hVL
              have HTV : Hid (TV = T.map (fun p => p.1)) := hTV
              have HLV : Hid (w2.ownsRow w1.heap.size 26 1 lv VL.length VL) := by
                have h := hT.row
                rw [List.take_length] at h
                rw [hVL, List.length_map]
                exact h
              have HTO : Hid (w2.ownsRow w.heap.size 26 1 u15 TV.length TV) := by rw [hTV, List.length_map]; exact HI2.out.fnd
              have hlen2 : TV.length + VL.length ≤ 1000000 := by rw [hTV, hVL, List.length_map, List.length_map]; omega
              have hs2 : w.heap.size ≤ w2.heap.size := HI2.out.bel.size
              rw [← hVL] at HONE
              obtain ⟨la, ln, lc, rfl⟩ := owns_slice HLV.out
              clear hT hk1 hk2 hk3 HTK hVL hTV
              go_wp2_with (first | (at_builtin; refine wpList_app2 rfl _ _ rfl w.heap.size w1.heap.size u15 (.slice la ln lc) TV VL rfl HTO.out rfl HLV.out HONE.out hlen2 hs2 ?_; intro f6 w6 ho6 hg6 hf6; have HI6 : Hid (FindI w zb (.slice none 0 0) [] ([] : List Int).length f6 (T ++ (fs ++ gs1)) rv1 fv2 (T ++ (fs ++ gs1)) [] w6) := HI2.out.app (by rw [← HTV.out, ← HVL.out]; exact ho6) hg6 hf6; obtain ⟨fa, fc, rfl, hfc, hskc⟩ := FindI.final HI6.out HDA.out; have HFC : Hid _ := hfc; rw [← HSK.out] at hskc; have HB6 : Hid (Below w.heap.size w w6) := HI6.out.bel; clear ho6 hg6 hf6 hfc HI6) | fail)
              refine Calls.mono (skipped_st zb SK w6 hskc) ?_
              rintro e w7 ⟨rfl, rfl⟩
              clear HI2 HI1 HFEW1 HFEW HI HLV HTO HONE HVL HTV HTL
              go_wp2_with fail
              go_loopw [22] (fun i W => ∃ k : Nat, i = .int .i64 k ∧ k ≤ ps.length ∧ Hid (Below w7.heap.size w7 W)) (fun i _ => ps.length - (intOf i).toNat)
              case atStart => exact ⟨0, rfl, Nat.zero_le _, Below.refl _ _⟩
              case round =>
                obtain ⟨k, rfl, hkk, HB⟩ := hrel
                by_cases hlt : k < ps.length
                · obtain ⟨p, hp⟩ : ∃ p, ps[k]? = some p := ⟨ps[k], List.getElem?_eq_getElem hlt⟩
                  obtain ⟨g, ta, tc, hfa, hct, hbt⟩ := HFC.out k p hp
                  subst hfa
                  have hpw : ∃ b o, a0 = some ⟨b, o, none⟩ ∧ wr.cell? ⟨b, o + k, none⟩ = some p.val := by
                    rcases HP0.out.1 with h | ⟨b, o, rfl, hb, hc⟩
                    · rw [h] at hlt; cases hlt
                    · exact ⟨b, o, rfl, ((trans2 HB6.out HB.out).cell (p := ⟨b, o + k, none⟩) hb).trans (hc k p hp)⟩
                  obtain ⟨b0, o0, hpa, hcp⟩ := hpw
                  subst hpa
                  have hpk := (HP0.out.2 p (List.mem_of_getElem? hp)).below (trans2 HB6.out HB.out)
                  have hct2 : wr.cell? ⟨g, k, none⟩ = some (.slice ta p.2.2.length tc) := (HB.out.cell (p := ⟨g, k, none⟩) (World.block_lt_of_cell? _ _ hct)).trans hct
                  have hbt2 := hbt.below HB.out
                  have hpl : p.2.2.length ≤ 20000 := by
                    have := Nat.le_trans (body_le ps (k + 1)) hs0.1
                    rw [body_step hp, List.length_append] at this
                    omega
                  obtain ⟨pa, pc, pys⟩ := p
                  rw [Pc.val_eq] at hcp
                  simp only at hct2 hbt2 hpl
                  have HU : Hid (∀ W, Below wr.heap.size wr W → Calls Try.prog 13 #[.slice ta pys.length tc, .slice pa pys.length pc] W fun e w' => e = .returned (.bool true) ∧ Below W.heap.size W w') := fun W hb => by
                    have h := same_is (c := tc) (d := pc) (hbt2.below hb) (hpk.1.below hb) (by unfold maxLen; omega)
                    rw [decide_eq_true rfl] at h
                    exact h
                  have hkI : (k : Int) < (ps.length : Int) := by omega
                  clear hp hct hbt hbt2 hpk
                  go_wp2_with fail
                  go_region_held3 (fun w' => w'.cell? ⟨g, k, none⟩ = some (.slice ta pys.length tc) ∧ w'.cell? ⟨b0, o0 + k, none⟩ = some (.slice pa pys.length pc)) (first | go_keep | exact ⟨by assumption, by assumption⟩)
                    (first | (go_at_call 13; refine (HU.out _ (Below.refl _ _).drew).mono ?_; rintro e w8 ⟨rfl, hb8⟩; have HB8 : Hid (Below wr.heap.size wr w8) := below_undrew hb8; have e1 := HB8.out.cell (p := ⟨g, k, none⟩) (World.block_lt_of_cell? _ _ hct2); have e2 := HB8.out.cell (p := ⟨b0, o0 + k, none⟩) (World.block_lt_of_cell? _ _ hcp); rw [hct2] at e1; rw [hcp] at e2; clear hb8))
                  have HB9 : Hid (Below w7.heap.size w7 w8) := trans2 HB.out HB8.out
                  clear e1 e2
                  go_wp2
                  exact ⟨⟨k + 1, by go_num, by omega, HB9⟩, by simp [intOf]; omega⟩
                · obtain rfl : k = ps.length := by omega
                  go_wp2
                  go_ret
                  exact ⟨rfl, trans2 HB6.out HB.out⟩
            · subst hu
              have hacI : (A.length : Int) ≤ (acap : Int) := by omega
              have hacm2 := hacm
              unfold maxLen at hacm2
              obtain ⟨ys, hys⟩ : ∃ ys, ys = A.drop n := ⟨_, rfl⟩
              have hyl : ys.length = A.length - n := by rw [hys, List.length_drop]
              have HYT : Hid (A.take n ++ ys = A.take A.length) := by show _ = _; rw [hys, List.take_append_drop, List.take_length]
              have hyb : Byt ys := fun z hz => HBA.out z (by rw [hys] at hz; exact List.mem_of_mem_drop hz)
              have hxl : ((A.take n).drop (dec (A.take n)).2.2).length ≤ n := by rw [List.length_drop, HTL.out]; omega
              by_cases hnc : n = acap
              · have hys0 : ys = [] := List.eq_nil_of_length_eq_zero (by omega)
                have hfeed := feed_st zb (dec (A.take n)).2.1 0 (some ⟨ag, 0, none⟩) rv fv _ ys fs wr HI.out.st.st HI.out.st.code (.inl hys0) hyb (by omega) (by omega) (by omega) (by omega) (by omega)
                rw [show ys.length = 0 by omega] at hfeed
                have HFEED : Hid _ := hfeed
                have hAn : A.length = n := by omega
                clear hfeed hys hyl hyb hxl hys0
                have hnc2 := hnc.symm
                clear hnc
                subst hnc2
                go_wp2_with fail
                refine Calls.mono HFEED.out ?_
                rintro e w1 ⟨⟨v1, rfl⟩, rv1, fv1, gs1, hF1⟩
                have HI1 : Hid (FindI w zb (.slice (some ⟨ag, 0, none⟩) A.length acap) A A.length u15 T rv1 fv1 T (fs ++ gs1) w1) := HI.out.fed hF1 HYT.out
                clear hF1 HFEED HYT
                have HFEW1 : Hid _ := HI1.out.few
                have hfs1 : (fs ++ gs1).length ≤ 24 := by have := HFEW1.out.1; omega
                have hTl : T.length ≤ 24 := by have := HFEW1.out.1; omega
                have HTK : Hid _ := taken_st zb (dec (List.take A.length A)).2.1 rv1 fv1 _ (fs ++ gs1) 1000 w1 HI1.out.st.st (by decide) (by omega)
                have HONE : Hid (∀ u ∈ (fs ++ gs1).map (fun p => p.1), u.oneCell' = true) := fun u hu => by
                  obtain ⟨p, hp, rfl⟩ := List.mem_map.1 hu
                  obtain ⟨a, n, c, h⟩ := owns_slice (HI1.out.st.st.each p hp).1
                  rw [h]; rfl
                go_wp2_with fail
                refine Calls.mono HTK.out ?_
                rintro e w2 ⟨kk, lv, fv2, rfl, hk1, hk2, hk3, hT⟩
                obtain rfl : kk = (fs ++ gs1).length := hk3 (by omega)
                have HI2 : Hid _ := HI1.out.took hT
                rw [List.take_length, List.drop_length] at HI2
                obtain ⟨VL, hVL⟩ : ∃ VL, VL = (fs ++ gs1).map (fun p => p.1) := ⟨_, rfl⟩
                obtain ⟨TV, hTV⟩ : ∃ TV, TV = T.map (fun p => p.1) := ⟨_, rfl⟩
                have HVL : Hid (VL = (fs ++ gs1).map (fun p => p.1)) := hVL
                have HTV : Hid (TV = T.map (fun p => p.1)) := hTV
                have HLV : Hid (w2.ownsRow w1.heap.size 26 1 lv VL.length VL) := by
                  have h := hT.row
                  rw [List.take_length] at h
                  rw [hVL, List.length_map]
                  exact h
                have HTO : Hid (w2.ownsRow w.heap.size 26 1 u15 TV.length TV) := by rw [hTV, List.length_map]; exact HI2.out.fnd
                have hlen2 : TV.length + VL.length ≤ 1000000 := by rw [hTV, hVL, List.length_map, List.length_map]; omega
                have hs2 : w.heap.size ≤ w2.heap.size := HI2.out.bel.size
                rw [← hVL] at HONE
                obtain ⟨la, ln, lc, rfl⟩ := owns_slice HLV.out
                clear hT hk1 hk2 hk3 HTK hVL hTV
                go_wp2_with (first | (at_builtin; refine wpList_app2 rfl _ _ rfl w.heap.size w1.heap.size u15 (.slice la ln lc) TV VL rfl HTO.out rfl HLV.out HONE.out hlen2 hs2 ?_; intro f6 w6 ho6 hg6 hf6; have HI6 : Hid (FindI w zb (.slice (some ⟨ag, 0, none⟩) A.length acap) A A.length f6 (T ++ (fs ++ gs1)) rv1 fv2 (T ++ (fs ++ gs1)) [] w6) := HI2.out.app (by rw [← HTV.out, ← HVL.out]; exact ho6) hg6 hf6; obtain ⟨fa, fc, rfl, hfc, hskc⟩ := FindI.final HI6.out HDA.out; have HFC : Hid _ := hfc; rw [← HSK.out] at hskc; have HB6 : Hid (Below w.heap.size w w6) := HI6.out.bel; clear ho6 hg6 hf6 hfc HI6) | fail)
                refine Calls.mono (skipped_st zb SK w6 hskc) ?_
                rintro e w7 ⟨rfl, rfl⟩
                clear HI2 HI1 HFEW1 HFEW HI HLV HTO HONE HVL HTV HTL
                go_wp2_with fail
                go_loopw [22] (fun i W => ∃ k : Nat, i = .int .i64 k ∧ k ≤ ps.length ∧ Hid (Below w7.heap.size w7 W)) (fun i _ => ps.length - (intOf i).toNat)
                case atStart => exact ⟨0, rfl, Nat.zero_le _, Below.refl _ _⟩
                case round =>
                  obtain ⟨k, rfl, hkk, HB⟩ := hrel
                  by_cases hlt : k < ps.length
                  · obtain ⟨p, hp⟩ : ∃ p, ps[k]? = some p := ⟨ps[k], List.getElem?_eq_getElem hlt⟩
                    obtain ⟨g, ta, tc, hfa, hct, hbt⟩ := HFC.out k p hp
                    subst hfa
                    have hpw : ∃ b o, a0 = some ⟨b, o, none⟩ ∧ wr.cell? ⟨b, o + k, none⟩ = some p.val := by
                      rcases HP0.out.1 with h | ⟨b, o, rfl, hb, hc⟩
                      · rw [h] at hlt; cases hlt
                      · exact ⟨b, o, rfl, ((trans2 HB6.out HB.out).cell (p := ⟨b, o + k, none⟩) hb).trans (hc k p hp)⟩
                    obtain ⟨b0, o0, hpa, hcp⟩ := hpw
                    subst hpa
                    have hpk := (HP0.out.2 p (List.mem_of_getElem? hp)).below (trans2 HB6.out HB.out)
                    have hct2 : wr.cell? ⟨g, k, none⟩ = some (.slice ta p.2.2.length tc) := (HB.out.cell (p := ⟨g, k, none⟩) (World.block_lt_of_cell? _ _ hct)).trans hct
                    have hbt2 := hbt.below HB.out
                    have hpl : p.2.2.length ≤ 20000 := by
                      have := Nat.le_trans (body_le ps (k + 1)) hs0.1
                      rw [body_step hp, List.length_append] at this
                      omega
                    obtain ⟨pa, pc, pys⟩ := p
                    rw [Pc.val_eq] at hcp
                    simp only at hct2 hbt2 hpl
                    have HU : Hid (∀ W, Below wr.heap.size wr W → Calls Try.prog 13 #[.slice ta pys.length tc, .slice pa pys.length pc] W fun e w' => e = .returned (.bool true) ∧ Below W.heap.size W w') := fun W hb => by
                      have h := same_is (c := tc) (d := pc) (hbt2.below hb) (hpk.1.below hb) (by unfold maxLen; omega)
                      rw [decide_eq_true rfl] at h
                      exact h
                    have hkI : (k : Int) < (ps.length : Int) := by omega
                    clear hp hct hbt hbt2 hpk
                    go_wp2_with fail
                    go_region_held3 (fun w' => w'.cell? ⟨g, k, none⟩ = some (.slice ta pys.length tc) ∧ w'.cell? ⟨b0, o0 + k, none⟩ = some (.slice pa pys.length pc)) (first | go_keep | exact ⟨by assumption, by assumption⟩)
                      (first | (go_at_call 13; refine (HU.out _ (Below.refl _ _).drew).mono ?_; rintro e w8 ⟨rfl, hb8⟩; have HB8 : Hid (Below wr.heap.size wr w8) := below_undrew hb8; have e1 := HB8.out.cell (p := ⟨g, k, none⟩) (World.block_lt_of_cell? _ _ hct2); have e2 := HB8.out.cell (p := ⟨b0, o0 + k, none⟩) (World.block_lt_of_cell? _ _ hcp); rw [hct2] at e1; rw [hcp] at e2; clear hb8))
                    have HB9 : Hid (Below w7.heap.size w7 w8) := trans2 HB.out HB8.out
                    clear e1 e2
                    go_wp2
                    exact ⟨⟨k + 1, by go_num, by omega, HB9⟩, by simp [intOf]; omega⟩
                  · obtain rfl : k = ps.length := by omega
                    go_wp2
                    go_ret
                    exact ⟨rfl, trans2 HB6.out HB.out⟩
              · have hncI : (n : Int) < (acap : Int) := by omega
                have hnc3 : ¬ acap = n := fun e => hnc e.symm
                have hfeed := feed_st zb (dec (A.take n)).2.1 (acap - n) (some ⟨ag, n, none⟩) rv fv _ ys fs wr HI.out.st.st HI.out.st.code (by rw [hys, show A.drop n = (A.drop n).take (A.length - n) by rw [List.take_of_length_le (by rw [List.length_drop]; omega)]]; exact piece_bys HI.out.row) hyb (by omega) (by omega) (by omega) (by omega) (by omega)
                rw [hyl] at hfeed
                have HFEED : Hid _ := hfeed
                clear hfeed hys hyl hyb hxl
                go_wp2_with fail
                refine Calls.mono HFEED.out ?_
                rintro e w1 ⟨⟨v1, rfl⟩, rv1, fv1, gs1, hF1⟩
                have HI1 : Hid (FindI w zb (.slice (some ⟨ag, 0, none⟩) A.length acap) A A.length u15 T rv1 fv1 T (fs ++ gs1) w1) := HI.out.fed hF1 HYT.out
                clear hF1 HFEED HYT
                have HFEW1 : Hid _ := HI1.out.few
                have hfs1 : (fs ++ gs1).length ≤ 24 := by have := HFEW1.out.1; omega
                have hTl : T.length ≤ 24 := by have := HFEW1.out.1; omega
                have HTK : Hid _ := taken_st zb (dec (List.take A.length A)).2.1 rv1 fv1 _ (fs ++ gs1) 1000 w1 HI1.out.st.st (by decide) (by omega)
                have HONE : Hid (∀ u ∈ (fs ++ gs1).map (fun p => p.1), u.oneCell' = true) := fun u hu => by
                  obtain ⟨p, hp, rfl⟩ := List.mem_map.1 hu
                  obtain ⟨a, n, c, h⟩ := owns_slice (HI1.out.st.st.each p hp).1
                  rw [h]; rfl
                go_wp2_with fail
                refine Calls.mono HTK.out ?_
                rintro e w2 ⟨kk, lv, fv2, rfl, hk1, hk2, hk3, hT⟩
                obtain rfl : kk = (fs ++ gs1).length := hk3 (by omega)
                have HI2 : Hid _ := HI1.out.took hT
                rw [List.take_length, List.drop_length] at HI2
                obtain ⟨VL, hVL⟩ : ∃ VL, VL = (fs ++ gs1).map (fun p => p.1) := ⟨_, rfl⟩
                obtain ⟨TV, hTV⟩ : ∃ TV, TV = T.map (fun p => p.1) := ⟨_, rfl⟩
                have HVL : Hid (VL = (fs ++ gs1).map (fun p => p.1)) := hVL
                have HTV : Hid (TV = T.map (fun p => p.1)) := hTV
                have HLV : Hid (w2.ownsRow w1.heap.size 26 1 lv VL.length VL) := by
                  have h := hT.row
                  rw [List.take_length] at h
                  rw [hVL, List.length_map]
                  exact h
                have HTO : Hid (w2.ownsRow w.heap.size 26 1 u15 TV.length TV) := by rw [hTV, List.length_map]; exact HI2.out.fnd
                have hlen2 : TV.length + VL.length ≤ 1000000 := by rw [hTV, hVL, List.length_map, List.length_map]; omega
                have hs2 : w.heap.size ≤ w2.heap.size := HI2.out.bel.size
                rw [← hVL] at HONE
                obtain ⟨la, ln, lc, rfl⟩ := owns_slice HLV.out
                clear hT hk1 hk2 hk3 HTK hVL hTV
                go_wp2_with (first | (at_builtin; refine wpList_app2 rfl _ _ rfl w.heap.size w1.heap.size u15 (.slice la ln lc) TV VL rfl HTO.out rfl HLV.out HONE.out hlen2 hs2 ?_; intro f6 w6 ho6 hg6 hf6; have HI6 : Hid (FindI w zb (.slice (some ⟨ag, 0, none⟩) A.length acap) A A.length f6 (T ++ (fs ++ gs1)) rv1 fv2 (T ++ (fs ++ gs1)) [] w6) := HI2.out.app (by rw [← HTV.out, ← HVL.out]; exact ho6) hg6 hf6; obtain ⟨fa, fc, rfl, hfc, hskc⟩ := FindI.final HI6.out HDA.out; have HFC : Hid _ := hfc; rw [← HSK.out] at hskc; have HB6 : Hid (Below w.heap.size w w6) := HI6.out.bel; clear ho6 hg6 hf6 hfc HI6) | fail)
                refine Calls.mono (skipped_st zb SK w6 hskc) ?_
                rintro e w7 ⟨rfl, rfl⟩
                clear HI2 HI1 HFEW1 HFEW HI HLV HTO HONE HVL HTV HTL
                go_wp2_with fail
                go_loopw [22] (fun i W => ∃ k : Nat, i = .int .i64 k ∧ k ≤ ps.length ∧ Hid (Below w7.heap.size w7 W)) (fun i _ => ps.length - (intOf i).toNat)
                case atStart => exact ⟨0, rfl, Nat.zero_le _, Below.refl _ _⟩
                case round =>
                  obtain ⟨k, rfl, hkk, HB⟩ := hrel
                  by_cases hlt : k < ps.length
                  · obtain ⟨p, hp⟩ : ∃ p, ps[k]? = some p := ⟨ps[k], List.getElem?_eq_getElem hlt⟩
                    obtain ⟨g, ta, tc, hfa, hct, hbt⟩ := HFC.out k p hp
                    subst hfa
                    have hpw : ∃ b o, a0 = some ⟨b, o, none⟩ ∧ wr.cell? ⟨b, o + k, none⟩ = some p.val := by
                      rcases HP0.out.1 with h | ⟨b, o, rfl, hb, hc⟩
                      · rw [h] at hlt; cases hlt
                      · exact ⟨b, o, rfl, ((trans2 HB6.out HB.out).cell (p := ⟨b, o + k, none⟩) hb).trans (hc k p hp)⟩
                    obtain ⟨b0, o0, hpa, hcp⟩ := hpw
                    subst hpa
                    have hpk := (HP0.out.2 p (List.mem_of_getElem? hp)).below (trans2 HB6.out HB.out)
                    have hct2 : wr.cell? ⟨g, k, none⟩ = some (.slice ta p.2.2.length tc) := (HB.out.cell (p := ⟨g, k, none⟩) (World.block_lt_of_cell? _ _ hct)).trans hct
                    have hbt2 := hbt.below HB.out
                    have hpl : p.2.2.length ≤ 20000 := by
                      have := Nat.le_trans (body_le ps (k + 1)) hs0.1
                      rw [body_step hp, List.length_append] at this
                      omega
                    obtain ⟨pa, pc, pys⟩ := p
                    rw [Pc.val_eq] at hcp
                    simp only at hct2 hbt2 hpl
                    have HU : Hid (∀ W, Below wr.heap.size wr W → Calls Try.prog 13 #[.slice ta pys.length tc, .slice pa pys.length pc] W fun e w' => e = .returned (.bool true) ∧ Below W.heap.size W w') := fun W hb => by
                      have h := same_is (c := tc) (d := pc) (hbt2.below hb) (hpk.1.below hb) (by unfold maxLen; omega)
                      rw [decide_eq_true rfl] at h
                      exact h
                    have hkI : (k : Int) < (ps.length : Int) := by omega
                    clear hp hct hbt hbt2 hpk
                    go_wp2_with fail
                    go_region_held3 (fun w' => w'.cell? ⟨g, k, none⟩ = some (.slice ta pys.length tc) ∧ w'.cell? ⟨b0, o0 + k, none⟩ = some (.slice pa pys.length pc)) (first | go_keep | exact ⟨by assumption, by assumption⟩)
                      (first | (go_at_call 13; refine (HU.out _ (Below.refl _ _).drew).mono ?_; rintro e w8 ⟨rfl, hb8⟩; have HB8 : Hid (Below wr.heap.size wr w8) := below_undrew hb8; have e1 := HB8.out.cell (p := ⟨g, k, none⟩) (World.block_lt_of_cell? _ _ hct2); have e2 := HB8.out.cell (p := ⟨b0, o0 + k, none⟩) (World.block_lt_of_cell? _ _ hcp); rw [hct2] at e1; rw [hcp] at e2; clear hb8))
                    have HB9 : Hid (Below w7.heap.size w7 w8) := trans2 HB.out HB8.out
                    clear e1 e2
                    go_wp2
                    exact ⟨⟨k + 1, by go_num, by omega, HB9⟩, by simp [intOf]; omega⟩
                  · obtain rfl : k = ps.length := by omega
                    go_wp2
                    go_ret
                    exact ⟨rfl, trans2 HB6.out HB.out⟩
          · rcases HSH.out with ⟨hu, hA0⟩ | ⟨ag, acap, hu, hac, hacm⟩
            · subst hu
              subst hA0
              obtain rfl : n = 0 := by simpa using hn
              have HYT : Hid (List.take 0 ([] : List Int) ++ [] = List.take ([] : List Int).length []) := rfl
              have HFEED : Hid _ := feed_st zb (dec (List.take 0 ([] : List Int))).2.1 0 none rv fv _ [] fs wr HI.out.st.st HI.out.st.code (.inl rfl) (fun z hz => nomatch hz) (by simp) (by simp) (by unfold maxLen; omega) (by simp; omega) (by omega)
              go_wp2_with fail
              refine Calls.mono HFEED.out ?_
              rintro e w1 ⟨⟨v1, rfl⟩, rv1, fv1, gs1, hF1⟩
              have HI1 : Hid (FindI w zb (.slice none 0 0) [] ([] : List Int).length u15 T rv1 fv1 T (fs ++ gs1) w1) := HI.out.fed hF1 HYT.out
              clear hF1 HFEED HYT
              have HFEW1 : Hid _ := HI1.out.few
              have hfs1 : (fs ++ gs1).length ≤ 24 := by have := HFEW1.out.1; omega
              have hTl : T.length ≤ 24 := by have := HFEW1.out.1; omega
              have HTK : Hid _ := taken_st zb (dec (List.take ([] : List Int).length [])).2.1 rv1 fv1 _ (fs ++ gs1) 1000 w1 HI1.out.st.st (by decide) (by omega)
              have HONE : Hid (∀ u ∈ (fs ++ gs1).map (fun p => p.1), u.oneCell' = true) := fun u hu => by
                obtain ⟨p, hp, rfl⟩ := List.mem_map.1 hu
                obtain ⟨a, n, c, h⟩ := owns_slice (HI1.out.st.st.each p hp).1
                rw [h]; rfl
              go_wp2_with fail
              refine Calls.mono HTK.out ?_
              rintro e w2 ⟨kk, lv, fv2, rfl, hk1, hk2, hk3, hT⟩
              obtain rfl : kk = (fs ++ gs1).length := hk3 (by omega)
              have HI2 : Hid _ := HI1.out.took hT
              rw [List.take_length, List.drop_length] at HI2
              obtain ⟨VL, hVL⟩ : ∃ VL, VL = (fs ++ gs1).map (fun p => p.1) := ⟨_, rfl⟩
              obtain ⟨TV, hTV⟩ : ∃ TV, TV = T.map (fun p => p.1) := ⟨_, rfl⟩
              have HVL : Hid (VL = (fs ++ gs1).map (fun p => p.1)) := hVL
              have HTV : Hid (TV = T.map (fun p => p.1)) := hTV
              have HLV : Hid (w2.ownsRow w1.heap.size 26 1 lv VL.length VL) := by
                have h := hT.row
                rw [List.take_length] at h
                rw [hVL, List.length_map]
                exact h
              have HTO : Hid (w2.ownsRow w.heap.size 26 1 u15 TV.length TV) := by rw [hTV, List.length_map]; exact HI2.out.fnd
              have hlen2 : TV.length + VL.length ≤ 1000000 := by rw [hTV, hVL, List.length_map, List.length_map]; omega
              have hs2 : w.heap.size ≤ w2.heap.size := HI2.out.bel.size
              rw [← hVL] at HONE
              obtain ⟨la, ln, lc, rfl⟩ := owns_slice HLV.out
              clear hT hk1 hk2 hk3 HTK hVL hTV
              go_wp2_with (first | (at_builtin; refine wpList_app2 rfl _ _ rfl w.heap.size w1.heap.size u15 (.slice la ln lc) TV VL rfl HTO.out rfl HLV.out HONE.out hlen2 hs2 ?_; intro f6 w6 ho6 hg6 hf6; have HI6 : Hid (FindI w zb (.slice none 0 0) [] ([] : List Int).length f6 (T ++ (fs ++ gs1)) rv1 fv2 (T ++ (fs ++ gs1)) [] w6) := HI2.out.app (by rw [← HTV.out, ← HVL.out]; exact ho6) hg6 hf6; obtain ⟨fa, fc, rfl, hfc, hskc⟩ := FindI.final HI6.out HDA.out; have HFC : Hid _ := hfc; rw [← HSK.out] at hskc; have HB6 : Hid (Below w.heap.size w w6) := HI6.out.bel; clear ho6 hg6 hf6 hfc HI6) | fail)
              refine Calls.mono (skipped_st zb SK w6 hskc) ?_
              rintro e w7 ⟨rfl, rfl⟩
              clear HI2 HI1 HFEW1 HFEW HI HLV HTO HONE HVL HTV HTL
              go_wp2_with fail
              go_loopw [22] (fun i W => ∃ k : Nat, i = .int .i64 k ∧ k ≤ ps.length ∧ Hid (Below w7.heap.size w7 W)) (fun i _ => ps.length - (intOf i).toNat)
              case atStart => exact ⟨0, rfl, Nat.zero_le _, Below.refl _ _⟩
              case round =>
                obtain ⟨k, rfl, hkk, HB⟩ := hrel
                by_cases hlt : k < ps.length
                · obtain ⟨p, hp⟩ : ∃ p, ps[k]? = some p := ⟨ps[k], List.getElem?_eq_getElem hlt⟩
                  obtain ⟨g, ta, tc, hfa, hct, hbt⟩ := HFC.out k p hp
                  subst hfa
                  have hpw : ∃ b o, a0 = some ⟨b, o, none⟩ ∧ wr.cell? ⟨b, o + k, none⟩ = some p.val := by
                    rcases HP0.out.1 with h | ⟨b, o, rfl, hb, hc⟩
                    · rw [h] at hlt; cases hlt
                    · exact ⟨b, o, rfl, ((trans2 HB6.out HB.out).cell (p := ⟨b, o + k, none⟩) hb).trans (hc k p hp)⟩
                  obtain ⟨b0, o0, hpa, hcp⟩ := hpw
                  subst hpa
                  have hpk := (HP0.out.2 p (List.mem_of_getElem? hp)).below (trans2 HB6.out HB.out)
                  have hct2 : wr.cell? ⟨g, k, none⟩ = some (.slice ta p.2.2.length tc) := (HB.out.cell (p := ⟨g, k, none⟩) (World.block_lt_of_cell? _ _ hct)).trans hct
                  have hbt2 := hbt.below HB.out
                  have hpl : p.2.2.length ≤ 20000 := by
                    have := Nat.le_trans (body_le ps (k + 1)) hs0.1
                    rw [body_step hp, List.length_append] at this
                    omega
                  obtain ⟨pa, pc, pys⟩ := p
                  rw [Pc.val_eq] at hcp
                  simp only at hct2 hbt2 hpl
                  have HU : Hid (∀ W, Below wr.heap.size wr W → Calls Try.prog 13 #[.slice ta pys.length tc, .slice pa pys.length pc] W fun e w' => e = .returned (.bool true) ∧ Below W.heap.size W w') := fun W hb => by
                    have h := same_is (c := tc) (d := pc) (hbt2.below hb) (hpk.1.below hb) (by unfold maxLen; omega)
                    rw [decide_eq_true rfl] at h
                    exact h
                  have hkI : (k : Int) < (ps.length : Int) := by omega
                  clear hp hct hbt hbt2 hpk
                  go_wp2_with fail
                  go_region_held3 (fun w' => w'.cell? ⟨g, k, none⟩ = some (.slice ta pys.length tc) ∧ w'.cell? ⟨b0, o0 + k, none⟩ = some (.slice pa pys.length pc)) (first | go_keep | exact ⟨by assumption, by assumption⟩)
                    (first | (go_at_call 13; refine (HU.out _ (Below.refl _ _).drew).mono ?_; rintro e w8 ⟨rfl, hb8⟩; have HB8 : Hid (Below wr.heap.size wr w8) := below_undrew hb8; have e1 := HB8.out.cell (p := ⟨g, k, none⟩) (World.block_lt_of_cell? _ _ hct2); have e2 := HB8.out.cell (p := ⟨b0, o0 + k, none⟩) (World.block_lt_of_cell? _ _ hcp); rw [hct2] at e1; rw [hcp] at e2; clear hb8))
                  have HB9 : Hid (Below w7.heap.size w7 w8) := trans2 HB.out HB8.out
                  clear e1 e2
                  go_wp2
                  exact ⟨⟨k + 1, by go_num, by omega, HB9⟩, by simp [intOf]; omega⟩
                · obtain rfl : k = ps.length := by omega
                  go_wp2
                  go_ret
                  exact ⟨rfl, trans2 HB6.out HB.out⟩
            · subst hu
              have hacI : (A.length : Int) ≤ (acap : Int) := by omega
              have hacm2 := hacm
              unfold maxLen at hacm2
              obtain ⟨ys, hys⟩ : ∃ ys, ys = A.drop n := ⟨_, rfl⟩
              have hyl : ys.length = A.length - n := by rw [hys, List.length_drop]
              have HYT : Hid (A.take n ++ ys = A.take A.length) := by show _ = _; rw [hys, List.take_append_drop, List.take_length]
              have hyb : Byt ys := fun z hz => HBA.out z (by rw [hys] at hz; exact List.mem_of_mem_drop hz)
              have hxl : ((A.take n).drop (dec (A.take n)).2.2).length ≤ n := by rw [List.length_drop, HTL.out]; omega
              by_cases hnc : n = acap
              · have hys0 : ys = [] := List.eq_nil_of_length_eq_zero (by omega)
                have hfeed := feed_st zb (dec (A.take n)).2.1 0 (some ⟨ag, 0, none⟩) rv fv _ ys fs wr HI.out.st.st HI.out.st.code (.inl hys0) hyb (by omega) (by omega) (by omega) (by omega) (by omega)
                rw [show ys.length = 0 by omega] at hfeed
                have HFEED : Hid _ := hfeed
                have hAn : A.length = n := by omega
                clear hfeed hys hyl hyb hxl hys0
                have hnc2 := hnc.symm
                clear hnc
                subst hnc2
                go_wp2_with fail
                refine Calls.mono HFEED.out ?_
                rintro e w1 ⟨⟨v1, rfl⟩, rv1, fv1, gs1, hF1⟩
                have HI1 : Hid (FindI w zb (.slice (some ⟨ag, 0, none⟩) A.length acap) A A.length u15 T rv1 fv1 T (fs ++ gs1) w1) := HI.out.fed hF1 HYT.out
                clear hF1 HFEED HYT
                have HFEW1 : Hid _ := HI1.out.few
                have hfs1 : (fs ++ gs1).length ≤ 24 := by have := HFEW1.out.1; omega
                have hTl : T.length ≤ 24 := by have := HFEW1.out.1; omega
                have HTK : Hid _ := taken_st zb (dec (List.take A.length A)).2.1 rv1 fv1 _ (fs ++ gs1) 1000 w1 HI1.out.st.st (by decide) (by omega)
                have HONE : Hid (∀ u ∈ (fs ++ gs1).map (fun p => p.1), u.oneCell' = true) := fun u hu => by
                  obtain ⟨p, hp, rfl⟩ := List.mem_map.1 hu
                  obtain ⟨a, n, c, h⟩ := owns_slice (HI1.out.st.st.each p hp).1
                  rw [h]; rfl
                go_wp2_with fail
                refine Calls.mono HTK.out ?_
                rintro e w2 ⟨kk, lv, fv2, rfl, hk1, hk2, hk3, hT⟩
                obtain rfl : kk = (fs ++ gs1).length := hk3 (by omega)
                have HI2 : Hid _ := HI1.out.took hT
                rw [List.take_length, List.drop_length] at HI2
                obtain ⟨VL, hVL⟩ : ∃ VL, VL = (fs ++ gs1).map (fun p => p.1) := ⟨_, rfl⟩
                obtain ⟨TV, hTV⟩ : ∃ TV, TV = T.map (fun p => p.1) := ⟨_, rfl⟩
                have HVL : Hid (VL = (fs ++ gs1).map (fun p => p.1)) := hVL
                have HTV : Hid (TV = T.map (fun p => p.1)) := hTV
                have HLV : Hid (w2.ownsRow w1.heap.size 26 1 lv VL.length VL) := by
                  have h := hT.row
                  rw [List.take_length] at h
                  rw [hVL, List.length_map]
                  exact h
                have HTO : Hid (w2.ownsRow w.heap.size 26 1 u15 TV.length TV) := by rw [hTV, List.length_map]; exact HI2.out.fnd
                have hlen2 : TV.length + VL.length ≤ 1000000 := by rw [hTV, hVL, List.length_map, List.length_map]; omega
                have hs2 : w.heap.size ≤ w2.heap.size := HI2.out.bel.size
                rw [← hVL] at HONE
                obtain ⟨la, ln, lc, rfl⟩ := owns_slice HLV.out
                clear hT hk1 hk2 hk3 HTK hVL hTV
                go_wp2_with (first | (at_builtin; refine wpList_app2 rfl _ _ rfl w.heap.size w1.heap.size u15 (.slice la ln lc) TV VL rfl HTO.out rfl HLV.out HONE.out hlen2 hs2 ?_; intro f6 w6 ho6 hg6 hf6; have HI6 : Hid (FindI w zb (.slice (some ⟨ag, 0, none⟩) A.length acap) A A.length f6 (T ++ (fs ++ gs1)) rv1 fv2 (T ++ (fs ++ gs1)) [] w6) := HI2.out.app (by rw [← HTV.out, ← HVL.out]; exact ho6) hg6 hf6; obtain ⟨fa, fc, rfl, hfc, hskc⟩ := FindI.final HI6.out HDA.out; have HFC : Hid _ := hfc; rw [← HSK.out] at hskc; have HB6 : Hid (Below w.heap.size w w6) := HI6.out.bel; clear ho6 hg6 hf6 hfc HI6) | fail)
                refine Calls.mono (skipped_st zb SK w6 hskc) ?_
                rintro e w7 ⟨rfl, rfl⟩
                clear HI2 HI1 HFEW1 HFEW HI HLV HTO HONE HVL HTV HTL
                go_wp2_with fail
                go_loopw [22] (fun i W => ∃ k : Nat, i = .int .i64 k ∧ k ≤ ps.length ∧ Hid (Below w7.heap.size w7 W)) (fun i _ => ps.length - (intOf i).toNat)
                case atStart => exact ⟨0, rfl, Nat.zero_le _, Below.refl _ _⟩
                case round =>
                  obtain ⟨k, rfl, hkk, HB⟩ := hrel
                  by_cases hlt : k < ps.length
                  · obtain ⟨p, hp⟩ : ∃ p, ps[k]? = some p := ⟨ps[k], List.getElem?_eq_getElem hlt⟩
                    obtain ⟨g, ta, tc, hfa, hct, hbt⟩ := HFC.out k p hp
                    subst hfa
                    have hpw : ∃ b o, a0 = some ⟨b, o, none⟩ ∧ wr.cell? ⟨b, o + k, none⟩ = some p.val := by
                      rcases HP0.out.1 with h | ⟨b, o, rfl, hb, hc⟩
                      · rw [h] at hlt; cases hlt
                      · exact ⟨b, o, rfl, ((trans2 HB6.out HB.out).cell (p := ⟨b, o + k, none⟩) hb).trans (hc k p hp)⟩
                    obtain ⟨b0, o0, hpa, hcp⟩ := hpw
                    subst hpa
                    have hpk := (HP0.out.2 p (List.mem_of_getElem? hp)).below (trans2 HB6.out HB.out)
                    have hct2 : wr.cell? ⟨g, k, none⟩ = some (.slice ta p.2.2.length tc) := (HB.out.cell (p := ⟨g, k, none⟩) (World.block_lt_of_cell? _ _ hct)).trans hct
                    have hbt2 := hbt.below HB.out
                    have hpl : p.2.2.length ≤ 20000 := by
                      have := Nat.le_trans (body_le ps (k + 1)) hs0.1
                      rw [body_step hp, List.length_append] at this
                      omega
                    obtain ⟨pa, pc, pys⟩ := p
                    rw [Pc.val_eq] at hcp
                    simp only at hct2 hbt2 hpl
                    have HU : Hid (∀ W, Below wr.heap.size wr W → Calls Try.prog 13 #[.slice ta pys.length tc, .slice pa pys.length pc] W fun e w' => e = .returned (.bool true) ∧ Below W.heap.size W w') := fun W hb => by
                      have h := same_is (c := tc) (d := pc) (hbt2.below hb) (hpk.1.below hb) (by unfold maxLen; omega)
                      rw [decide_eq_true rfl] at h
                      exact h
                    have hkI : (k : Int) < (ps.length : Int) := by omega
                    clear hp hct hbt hbt2 hpk
                    go_wp2_with fail
                    go_region_held3 (fun w' => w'.cell? ⟨g, k, none⟩ = some (.slice ta pys.length tc) ∧ w'.cell? ⟨b0, o0 + k, none⟩ = some (.slice pa pys.length pc)) (first | go_keep | exact ⟨by assumption, by assumption⟩)
                      (first | (go_at_call 13; refine (HU.out _ (Below.refl _ _).drew).mono ?_; rintro e w8 ⟨rfl, hb8⟩; have HB8 : Hid (Below wr.heap.size wr w8) := below_undrew hb8; have e1 := HB8.out.cell (p := ⟨g, k, none⟩) (World.block_lt_of_cell? _ _ hct2); have e2 := HB8.out.cell (p := ⟨b0, o0 + k, none⟩) (World.block_lt_of_cell? _ _ hcp); rw [hct2] at e1; rw [hcp] at e2; clear hb8))
                    have HB9 : Hid (Below w7.heap.size w7 w8) := trans2 HB.out HB8.out
                    clear e1 e2
                    go_wp2
                    exact ⟨⟨k + 1, by go_num, by omega, HB9⟩, by simp [intOf]; omega⟩
                  · obtain rfl : k = ps.length := by omega
                    go_wp2
                    go_ret
                    exact ⟨rfl, trans2 HB6.out HB.out⟩
              · have hncI : (n : Int) < (acap : Int) := by omega
                have hnc3 : ¬ acap = n := fun e => hnc e.symm
                have hfeed := feed_st zb (dec (A.take n)).2.1 (acap - n) (some ⟨ag, n, none⟩) rv fv _ ys fs wr HI.out.st.st HI.out.st.code (by rw [hys, show A.drop n = (A.drop n).take (A.length - n) by rw [List.take_of_length_le (by rw [List.length_drop]; omega)]]; exact piece_bys HI.out.row) hyb (by omega) (by omega) (by omega) (by omega) (by omega)
                rw [hyl] at hfeed
                have HFEED : Hid _ := hfeed
                clear hfeed hys hyl hyb hxl
                go_wp2_with fail
                refine Calls.mono HFEED.out ?_
                rintro e w1 ⟨⟨v1, rfl⟩, rv1, fv1, gs1, hF1⟩
                have HI1 : Hid (FindI w zb (.slice (some ⟨ag, 0, none⟩) A.length acap) A A.length u15 T rv1 fv1 T (fs ++ gs1) w1) := HI.out.fed hF1 HYT.out
                clear hF1 HFEED HYT
                have HFEW1 : Hid _ := HI1.out.few
                have hfs1 : (fs ++ gs1).length ≤ 24 := by have := HFEW1.out.1; omega
                have hTl : T.length ≤ 24 := by have := HFEW1.out.1; omega
                have HTK : Hid _ := taken_st zb (dec (List.take A.length A)).2.1 rv1 fv1 _ (fs ++ gs1) 1000 w1 HI1.out.st.st (by decide) (by omega)
                have HONE : Hid (∀ u ∈ (fs ++ gs1).map (fun p => p.1), u.oneCell' = true) := fun u hu => by
                  obtain ⟨p, hp, rfl⟩ := List.mem_map.1 hu
                  obtain ⟨a, n, c, h⟩ := owns_slice (HI1.out.st.st.each p hp).1
                  rw [h]; rfl
                go_wp2_with fail
                refine Calls.mono HTK.out ?_
                rintro e w2 ⟨kk, lv, fv2, rfl, hk1, hk2, hk3, hT⟩
                obtain rfl : kk = (fs ++ gs1).length := hk3 (by omega)
                have HI2 : Hid _ := HI1.out.took hT
                rw [List.take_length, List.drop_length] at HI2
                obtain ⟨VL, hVL⟩ : ∃ VL, VL = (fs ++ gs1).map (fun p => p.1) := ⟨_, rfl⟩
                obtain ⟨TV, hTV⟩ : ∃ TV, TV = T.map (fun p => p.1) := ⟨_, rfl⟩
                have HVL : Hid (VL = (fs ++ gs1).map (fun p => p.1)) := hVL
                have HTV : Hid (TV = T.map (fun p => p.1)) := hTV
                have HLV : Hid (w2.ownsRow w1.heap.size 26 1 lv VL.length VL) := by
                  have h := hT.row
                  rw [List.take_length] at h
                  rw [hVL, List.length_map]
                  exact h
                have HTO : Hid (w2.ownsRow w.heap.size 26 1 u15 TV.length TV) := by rw [hTV, List.length_map]; exact HI2.out.fnd
                have hlen2 : TV.length + VL.length ≤ 1000000 := by rw [hTV, hVL, List.length_map, List.length_map]; omega
                have hs2 : w.heap.size ≤ w2.heap.size := HI2.out.bel.size
                rw [← hVL] at HONE
                obtain ⟨la, ln, lc, rfl⟩ := owns_slice HLV.out
                clear hT hk1 hk2 hk3 HTK hVL hTV
                go_wp2_with (first | (at_builtin; refine wpList_app2 rfl _ _ rfl w.heap.size w1.heap.size u15 (.slice la ln lc) TV VL rfl HTO.out rfl HLV.out HONE.out hlen2 hs2 ?_; intro f6 w6 ho6 hg6 hf6; have HI6 : Hid (FindI w zb (.slice (some ⟨ag, 0, none⟩) A.length acap) A A.length f6 (T ++ (fs ++ gs1)) rv1 fv2 (T ++ (fs ++ gs1)) [] w6) := HI2.out.app (by rw [← HTV.out, ← HVL.out]; exact ho6) hg6 hf6; obtain ⟨fa, fc, rfl, hfc, hskc⟩ := FindI.final HI6.out HDA.out; have HFC : Hid _ := hfc; rw [← HSK.out] at hskc; have HB6 : Hid (Below w.heap.size w w6) := HI6.out.bel; clear ho6 hg6 hf6 hfc HI6) | fail)
                refine Calls.mono (skipped_st zb SK w6 hskc) ?_
                rintro e w7 ⟨rfl, rfl⟩
                clear HI2 HI1 HFEW1 HFEW HI HLV HTO HONE HVL HTV HTL
                go_wp2_with fail
                go_loopw [22] (fun i W => ∃ k : Nat, i = .int .i64 k ∧ k ≤ ps.length ∧ Hid (Below w7.heap.size w7 W)) (fun i _ => ps.length - (intOf i).toNat)
                case atStart => exact ⟨0, rfl, Nat.zero_le _, Below.refl _ _⟩
                case round =>
                  obtain ⟨k, rfl, hkk, HB⟩ := hrel
                  by_cases hlt : k < ps.length
                  · obtain ⟨p, hp⟩ : ∃ p, ps[k]? = some p := ⟨ps[k], List.getElem?_eq_getElem hlt⟩
                    obtain ⟨g, ta, tc, hfa, hct, hbt⟩ := HFC.out k p hp
                    subst hfa
                    have hpw : ∃ b o, a0 = some ⟨b, o, none⟩ ∧ wr.cell? ⟨b, o + k, none⟩ = some p.val := by
                      rcases HP0.out.1 with h | ⟨b, o, rfl, hb, hc⟩
                      · rw [h] at hlt; cases hlt
                      · exact ⟨b, o, rfl, ((trans2 HB6.out HB.out).cell (p := ⟨b, o + k, none⟩) hb).trans (hc k p hp)⟩
                    obtain ⟨b0, o0, hpa, hcp⟩ := hpw
                    subst hpa
                    have hpk := (HP0.out.2 p (List.mem_of_getElem? hp)).below (trans2 HB6.out HB.out)
                    have hct2 : wr.cell? ⟨g, k, none⟩ = some (.slice ta p.2.2.length tc) := (HB.out.cell (p := ⟨g, k, none⟩) (World.block_lt_of_cell? _ _ hct)).trans hct
                    have hbt2 := hbt.below HB.out
                    have hpl : p.2.2.length ≤ 20000 := by
                      have := Nat.le_trans (body_le ps (k + 1)) hs0.1
                      rw [body_step hp, List.length_append] at this
                      omega
                    obtain ⟨pa, pc, pys⟩ := p
                    rw [Pc.val_eq] at hcp
                    simp only at hct2 hbt2 hpl
                    have HU : Hid (∀ W, Below wr.heap.size wr W → Calls Try.prog 13 #[.slice ta pys.length tc, .slice pa pys.length pc] W fun e w' => e = .returned (.bool true) ∧ Below W.heap.size W w') := fun W hb => by
                      have h := same_is (c := tc) (d := pc) (hbt2.below hb) (hpk.1.below hb) (by unfold maxLen; omega)
                      rw [decide_eq_true rfl] at h
                      exact h
                    have hkI : (k : Int) < (ps.length : Int) := by omega
                    clear hp hct hbt hbt2 hpk
                    go_wp2_with fail
                    go_region_held3 (fun w' => w'.cell? ⟨g, k, none⟩ = some (.slice ta pys.length tc) ∧ w'.cell? ⟨b0, o0 + k, none⟩ = some (.slice pa pys.length pc)) (first | go_keep | exact ⟨by assumption, by assumption⟩)
                      (first | (go_at_call 13; refine (HU.out _ (Below.refl _ _).drew).mono ?_; rintro e w8 ⟨rfl, hb8⟩; have HB8 : Hid (Below wr.heap.size wr w8) := below_undrew hb8; have e1 := HB8.out.cell (p := ⟨g, k, none⟩) (World.block_lt_of_cell? _ _ hct2); have e2 := HB8.out.cell (p := ⟨b0, o0 + k, none⟩) (World.block_lt_of_cell? _ _ hcp); rw [hct2] at e1; rw [hcp] at e2; clear hb8))
                    have HB9 : Hid (Below w7.heap.size w7 w8) := trans2 HB.out HB8.out
                    clear e1 e2
                    go_wp2
                    exact ⟨⟨k + 1, by go_num, by omega, HB9⟩, by simp [intOf]; omega⟩
                  · obtain rfl : k = ps.length := by omega
                    go_wp2
                    go_ret
                    exact ⟨rfl, trans2 HB6.out HB.out⟩

end Go.Proofs.Ytdjibjmhjofedac
