/-
  heraldlaw9: TrieMatchesEach.
-/
import Derived.Test.YtcoicoijllpgnaaDoorXLaid
namespace Go.Proofs.YtcoicoijllpgnaaDoor
open Go.RowKit Go.Maps
set_option linter.unusedVariables false
set_option linter.unusedSimpArgs false

theorem insO_perm (o : On) (L : List On) : (insO o L).Perm (L ++ [o]) := by
  unfold insO
  exact List.perm_middle.trans (((part_perm (fun x => befO x o) L).cons o).trans (List.perm_append_singleton o L).symm)
theorem laid_perm_fold (L : List On) (acc : List On × List On) (h : acc.1.Perm acc.2) : (L.foldl laidF acc).1.Perm (L.foldl laidF acc).2 := by
  induction L generalizing acc with
  | nil => exact h
  | cons o r ih =>
    refine ih _ ?_
    unfold laidF
    split
    · exact (insO_perm o acc.1).trans (h.append (List.Perm.refl [o]))
    · exact h
theorem laid_perm (L : List On) : (laidR L).1.Perm (laidR L).2 := laid_perm_fold _ _ (List.Perm.refl _)
theorem OrdO.key {L : List On} (h : OrdO L) {x y : On} (hx : x ∈ L) (hy : y ∈ L) (hs : x.s = y.s) (hi : x.i = y.i) : x = y := by
  induction L with
  | nil => cases hx
  | cons a r ih =>
    have h1 := List.pairwise_cons.1 h
    rcases List.mem_cons.1 hx with rfl | hx'
    · rcases List.mem_cons.1 hy with rfl | hy'
      · rfl
      · have := h1.1 y hy'
        rw [befO, hs, hi, bef_irr] at this
        cases this
    · rcases List.mem_cons.1 hy with rfl | hy'
      · have := h1.1 x hx'
        rw [befO, hs, hi, bef_irr] at this
        cases this
      · exact ih h1.2 hx' hy'
theorem mat_has {L : List On} (ho : OrdO L) {stamp ck : Int} {cp : ByteArray} {x : On} (hx : x ∈ L) : (matO L stamp ck cp).any (fun t => decide (t.1 = x.s) && decide (t.2 = x.i)) = matB stamp ck cp x := by
  rw [Bool.eq_iff_iff, List.any_eq_true]
  constructor
  · rintro ⟨t, ht, h⟩
    simp only [Bool.and_eq_true, decide_eq_true_eq] at h
    unfold matO at ht
    obtain ⟨z, hz, rfl⟩ := List.mem_map.1 ht
    obtain ⟨h1, h2⟩ := List.mem_filter.1 hz
    have := ho.key h1 hx h.1 h.2
    rw [← this]
    exact h2
  · intro h
    exact ⟨(x.s, x.i), List.mem_map.2 ⟨x, List.mem_filter.2 ⟨hx, h⟩, rfl⟩, by simp⟩
theorem mat_asc {L : List On} (ho : OrdO L) (stamp ck : Int) (cp : ByteArray) : (matO L stamp ck cp).Pairwise (fun a b => befT a b = true) := by
  unfold matO
  rw [List.pairwise_map]
  exact List.Pairwise.filter _ ho
theorem mat_len {L M : List On} (hp : L.Perm M) (stamp ck : Int) (cp : ByteArray) : (M.filter (matB stamp ck cp)).length = (matO L stamp ck cp).length := by
  unfold matO
  rw [List.length_map]
  exact (hp.filter _).length_eq.symm
theorem filt_next {M : List On} {j : Nat} {x : On} (hx : M[j]? = some x) (P : On → Bool) : ((M.take (j + 1)).filter P).length = ((M.take j).filter P).length + (if P x then 1 else 0) := by
  have h1 : M.take (j + 1) = M.take j ++ [x] := by rw [List.take_add_one, hx]; rfl
  rw [h1, List.filter_append, List.length_append]
  by_cases h : P x
  · simp [h]
  · simp [h]
theorem any_next {M : List Tg} {j : Nat} {x : Tg} (hx : M[j]? = some x) (P : Tg → Bool) : (M.take (j + 1)).any P = ((M.take j).any P || P x) := by
  have h1 : M.take (j + 1) = M.take j ++ [x] := by rw [List.take_add_one, hx]; rfl
  rw [h1, List.any_append]
  simp
theorem os_of_row {w : World} {B : Nat} {v : Value} {L : List On} (h : w.ownsRow B 34 5 v L.length (onCs L)) : ∃ a c, v = .slice a L.length c ∧ OsAt w a L := by
  obtain ⟨a, c, rfl⟩ := owns_shape h
  refine ⟨a, c, rfl, ?_⟩
  rcases h.2 with ⟨h0, h1⟩ | ⟨g, cap, cur, hv, _, hg, _⟩
  · exact .inl (by simpa using h1)
  · have hv' := hv
    simp only [Value.slice.injEq] at hv'
    obtain ⟨rfl, _, rfl⟩ := hv'
    exact .inr ⟨g, 0, rfl, lt_of_blk hg, fun j t x v hx hv => by rw [Nat.zero_add]; exact cell_n h (onCs_at L j t x v hx hv)⟩
theorem fill4n {w : World} {g : Nat} {t : TypeId} {x0 x1 x2 x3 y0 y1 y2 y3 : Value} (h : w.heap[g]? = some (.cells #[y0, y1, y2, y3] t (0, 0))) : ((((w.setCell ⟨g, 0, none⟩ x0).setCell ⟨g, 1, none⟩ x1).setCell ⟨g, 2, none⟩ x2).setCell ⟨g, 3, none⟩ x3).heap[g]? = some (.cells #[x0, x1, x2, x3] t (0, 0)) := by
  have h0 := same_blk (i := 0) (v := x0) (cs' := #[x0, y1, y2, y3]) h rfl
  have h1 := same_blk (i := 1) (v := x1) (cs' := #[x0, x1, y2, y3]) h0 rfl
  have h2 := same_blk (i := 2) (v := x2) (cs' := #[x0, x1, x2, y3]) h1 rfl
  exact same_blk (i := 3) (v := x3) (cs' := #[x0, x1, x2, x3]) h2 rfl
set_option maxHeartbeats 64000000 in
set_option maxRecDepth 100000 in
theorem TrieMatchesEach_walk (a : Option Addr) (c : Nat) (L : List On) (stamp ck : Int) (cp cd : ByteArray) (cv : Int) (w : World) (hL : OsAt w a L) (hlen : (L.length : Int) ≤ 9223372036854775807) (hwf : ∀ o ∈ L, wfI o.s) (hg : Ground w) :
    Calls Tryd.prog 3 #[.slice a L.length c, .int .i64 stamp, chV ck cp cd cv] w fun e w' => e = .returned (.bool true) ∧ Below w.heap.size w w' := by
  have hb0 : Below w.heap.size w (w.alloc (.cells #[.int .i64 ck, .string cp, .string cd, .int .i64 cv] 24)) := (Below.refl _ _).alloc (Nat.le_refl _) _
  have hx0 : (w.alloc (.cells #[.int .i64 ck, .string cp, .string cd, .int .i64 cv] 24)).heap[w.heap.size]? = some (.cells #[.int .i64 ck, .string cp, .string cd, .int .i64 cv] 24 (0, 0)) := heap_alloc_new _ _
  have HB0 : Hid _ := hb0
  have HX0 : Hid _ := hx0
  have HL : Hid (OsAt w a L) := hL
  have HG : Hid (Ground w) := hg
  have HWF : Hid (∀ o ∈ L, wfI o.s) := hwf
  obtain ⟨Tr9, Tk, hT⟩ : ∃ A B, laidR L = (A, B) := ⟨_, _, rfl⟩
  have HT : Hid (laidR L = (Tr9, Tk)) := hT
  have HPM : Hid (Tr9.Perm Tk) := by have := laid_perm L; rw [hT] at this; exact this
  have HTL : Hid (Tr9.length ≤ 60 ∧ Tk.length ≤ 60) := by
    have := laidJ_len L 60
    have e : laidJ L 60 = laidR L := rfl
    rw [e, hT] at this
    exact this
  clear hL hg hwf hb0 hx0 hT
  go_enter Tryd.func3, Tryd.ntmps3
  go_upto_region 4 with (first
    | (go_at_call 4; refine (begins_any _ (HG.out.below HB0.out)).mono ?_; rintro e w1 ⟨rfl, hb1⟩
       have HB1 : Hid (Below w.heap.size w w1) := xtrans2 HB0.out hb1
       have HX1 : Hid _ := kept_block hb1 HX0.out
       clear hb1)
    | fail)
  go_upto_region 5 with (first
    | (go_at_call 5; refine (laid_any a c L w1 (HL.out.below HB1.out) hlen HWF.out (HG.out.below HB1.out)).mono ?_; rintro e w2 ⟨K, vt, rfl, hla⟩
       rw [HT.out] at hla
       have HLA : Hid (La w1 w2 K w1.heap.size vt (Tr9, Tk)) := hla
       have HB2 : Hid (Below w.heap.size w w2) := xtrans2 HB1.out hla.own.bel
       have HX2 : Hid _ := kept_block hla.own.bel HX1.out
       clear hla)
    | fail)
  obtain ⟨b0, b1, b2, b3⟩ := cells_4 HX2.out
  have HORD : Hid (OrdO Tr9) := HLA.out.own.at'.ord
  have HMA : Hid _ := matchA w2 K w1.heap.size Tr9 stamp ck cp cd cv HLA.out.own.at' (HG.out.below HB2.out) (by have := HTL.out; omega)
  obtain ⟨ts, hts⟩ : ∃ ts, matO Tr9 stamp ck cp = ts := ⟨_, rfl⟩
  have HTS : Hid (matO Tr9 stamp ck cp = ts) := hts
  rw [hts] at HMA
  clear hts
  go_upto_region 8 with (first
    | (go_at_call 6; refine Calls.mono HMA.out ?_; rintro e w3 ⟨v3, rfl, ho3, hb3⟩
       have HB3 : Hid (Below w.heap.size w w3) := xtrans2 HB2.out hb3
       have HX3 : Hid _ := kept_block hb3 HX2.out
       have HR3 : Hid (w3.ownsRow w1.heap.size 34 5 vt Tk.length (onCs Tk)) := owns_below HLA.out.row hb3
       have HS3 : Hid (TsAt w3 v3 ts) := owns_lo ho3 (Nat.zero_le _)
       clear ho3 hb3 b0 b1 b2 b3)
    | fail)
  obtain ⟨ak, ck', rfl, hok⟩ := os_of_row HR3.out
  have HOK : Hid (OsAt w3 ak Tk) := hok
  obtain ⟨at', ct', hv3⟩ := owns_shape HS3.out
  subst hv3
  have hkl : Tk.length ≤ 60 := HTL.out.2
  have htl : ts.length ≤ 60 := by
    have h1 := mat_len HPM.out stamp ck cp
    rw [HTS.out] at h1
    have h2 : (Tk.filter (matB stamp ck cp)).length ≤ Tk.length := List.length_filter_le _ _
    omega
  clear hok HR3
  go_loopw [11, 12] (fun vn vi wr => ∃ j : Nat, vi = .int .i64 j ∧ j ≤ Tk.length ∧ vn = .int .i64 (((Tk.take j).filter (matB stamp ck cp)).length : Nat) ∧ Hid (Below w3.heap.size w3 wr)) (fun _ vi _ => Tk.length - (intOf vi).toNat)
  case atStart => exact ⟨0, rfl, Nat.zero_le _, rfl, Below.refl _ _⟩
  case round =>
    obtain ⟨j, rfl, hj, rfl, HB⟩ := hrel
    by_cases hlt : j < Tk.length
    · have hlt' : (j : Int) < (Tk.length : Int) := by omega
      obtain ⟨x, hx⟩ : ∃ x, Tk[j]? = some x := ⟨Tk[j], List.getElem?_eq_getElem hlt⟩
      obtain ⟨b, o, rfl, x0, x1, x2, x3, x4⟩ := (HOK.out.below HB.out).at hx
      have HX : Hid (Tk[j]? = some x) := hx
      have HFN : Hid _ := filt_next hx (matB stamp ck cp)
      have HMH : Hid (ts.any (fun t => decide (t.1 = x.s) && decide (t.2 = x.i)) = matB stamp ck cp x) := by
        have := mat_has (stamp := stamp) (ck := ck) (cp := cp) HORD.out (HPM.out.mem_iff.2 (List.mem_of_getElem? hx))
        rw [HTS.out] at this
        exact this
      obtain ⟨W4, hW4⟩ : ∃ z, wr.alloc (.cells #[.int .i64 x.i, .string x.p, .int .i64 x.k, .int .i64 x.f] 32) = z := ⟨_, rfl⟩
      have HW4 : Hid (wr.alloc (.cells #[.int .i64 x.i, .string x.p, .int .i64 x.k, .int .i64 x.f] 32) = W4) := hW4
      have hb4 : Below wr.heap.size wr W4 := by rw [← hW4]; exact (Below.refl _ _).alloc (Nat.le_refl _) _
      have HB4 : Hid (Below w3.heap.size w3 W4) := xtrans2 HB.out hb4
      have HX4 : Hid (W4.heap[wr.heap.size]? = some (.cells #[.int .i64 x.i, .string x.p, .int .i64 x.k, .int .i64 x.f] 32 (0, 0))) := by show _ = _; rw [← hW4]; exact heap_alloc_new _ _
      obtain ⟨q, hq⟩ : ∃ q, wr.heap.size = q := ⟨_, rfl⟩
      have HQ : Hid (wr.heap.size = q) := hq
      clear hx hW4 hb4 hq
      go_upto_region 11 with fail
      rw [HW4.out, HQ.out]
      rw [HQ.out] at HX4
      clear x0 x1 x2 x3 x4
      obtain ⟨d0, d1, d2, d3⟩ := cells_4 HX4.out
      obtain ⟨b0, b1, b2, b3⟩ := cells_4 (kept_block HB4.out HX3.out)
      obtain ⟨cvx, hcv⟩ : ∃ b, covers x.k x.p ck cp = b := ⟨_, rfl⟩
      have HCV : Hid (covers x.k x.p ck cp = cvx) := hcv
      have HCO : Hid _ := covers_any x.k ck x.p cp W4 (HG.out.below (xtrans2 HB3.out HB4.out))
      rw [hcv] at HCO
      clear hcv
      go_upto_region 14 with (first
        | (go_at_call 7; refine Calls.mono HCO.out ?_; rintro e w5 ⟨rfl, hb5⟩
           have HB5 : Hid (Below w3.heap.size w3 w5) := xtrans2 HB4.out hb5
           have HX5 : Hid _ := kept_block hb5 HX4.out
           clear hb5 d0 d1 d2 d3 b0 b1 b2 b3)
        | fail)
      go_loopw [15, 16] (fun vn vi wq => ∃ q2 : Nat, vi = .int .i64 q2 ∧ q2 ≤ ts.length ∧ vn = .bool ((ts.take q2).any (fun t => decide (t.1 = x.s) && decide (t.2 = x.i))) ∧ Hid (Below w5.heap.size w5 wq)) (fun _ vi _ => ts.length - (intOf vi).toNat)
      case atStart => exact ⟨0, rfl, Nat.zero_le _, rfl, Below.refl _ _⟩
      case round =>
        obtain ⟨q2, rfl, hq2, rfl, HBq⟩ := hrel
        have HBW : Hid (Below w3.heap.size w3 wr) := xtrans2 HB5.out HBq.out
        by_cases hlq : q2 < ts.length
        · have hlq' : (q2 : Int) < (ts.length : Int) := by omega
          obtain ⟨t, ht⟩ : ∃ t, ts[q2]? = some t := ⟨ts[q2], List.getElem?_eq_getElem hlq⟩
          obtain ⟨g, rfl, t0, t1⟩ := (HS3.out.below HBW.out).at ht
          obtain ⟨b', o', e', x0, x1, x2, x3, x4⟩ := (HOK.out.below HBW.out).at HX.out
          cases e'
          obtain ⟨d0, d1, d2, d3⟩ := cells_4 (kept_block HBq.out HX5.out)
          have HAN : Hid _ := any_next ht (fun t => decide (t.1 = x.s) && decide (t.2 = x.i))
          obtain ⟨tS, tI⟩ := t
          simp only at t0 t1 HAN
          obtain ⟨ib, hib⟩ : ∃ ib, (ts.take q2).any (fun t => decide (t.1 = x.s) && decide (t.2 = x.i)) = ib := ⟨_, rfl⟩
          rw [hib] at HAN ⊢
          clear ht hib
          cases hd1 : decide (tS = x.s) with
          | false =>
            rw [hd1] at HAN
            have hn1 : ¬ tS = x.s := of_decide_eq_false hd1
            have hn2 : (tS == x.s) = false := by simpa using hn1
            go_wp2_with fail
            go_quiet (fail)
            go_wp2_with fail
            go_roundw
            case rel =>
              refine ⟨q2 + 1, by go_num, by omega, ?_, below_drewN HBq.out _⟩
              rw [HAN.out]
              simp
            case measure => simp [intOf]; omega
          | true =>
            rw [hd1] at HAN
            have hn1 : tS = x.s := of_decide_eq_true hd1
            have hn2 : (tS == x.s) = true := by simpa using hn1
            cases hd2 : decide (tI = x.i) with
            | false =>
              rw [hd2] at HAN
              have hn3 : ¬ tI = x.i := of_decide_eq_false hd2
              have hn4 : (tI == x.i) = false := by simpa using hn3
              go_wp2_with fail
              go_quiet (fail)
              go_wp2_with fail
              go_roundw
              case rel =>
                refine ⟨q2 + 1, by go_num, by omega, ?_, below_drewN HBq.out _⟩
                rw [HAN.out]
                simp
              case measure => simp [intOf]; omega
            | true =>
              rw [hd2] at HAN
              have hn3 : tI = x.i := of_decide_eq_true hd2
              have hn4 : (tI == x.i) = true := by simpa using hn3
              go_wp2_with fail
              go_quiet (fail)
              go_wp2_with fail
              go_roundw
              case rel =>
                refine ⟨q2 + 1, by go_num, by omega, ?_, below_drewN HBq.out _⟩
                rw [HAN.out]
                simp
              case measure => simp [intOf]; omega
        · obtain rfl : q2 = ts.length := by omega
          have hgq : ¬ ((ts.length : Int) < (ts.length : Int)) := by omega
          obtain ⟨d0, d1, d2, d3⟩ := cells_4 (kept_block HBq.out HX5.out)
          rw [List.take_length, HMH.out]
          have HMV : Hid (matB stamp ck cp x = (decide (x.f < stamp) && cvx)) := by show _ = _; unfold matB; rw [HCV.out]
          rw [HMV.out]
          rw [HMV.out] at HFN
          have hcl : ((Tk.take j).filter (matB stamp ck cp)).length ≤ 60 := by
            have h1 : ((Tk.take j).filter (matB stamp ck cp)).length ≤ (Tk.take j).length := List.length_filter_le _ _
            rw [List.length_take] at h1
            omega
          cases hdf : decide (x.f < stamp) with
          | false =>
            rw [hdf] at HFN
            cases cvx with
            | false =>
              go_wp2_with fail
              go_roundw
              case rel =>
                refine ⟨j + 1, by go_num, by omega, ?_, HBW.out⟩
                rw [HFN.out]
                rfl
              case measure => simp [intOf]; omega
            | true =>
              go_wp2_with fail
              go_roundw
              case rel =>
                refine ⟨j + 1, by go_num, by omega, ?_, HBW.out⟩
                rw [HFN.out]
                rfl
              case measure => simp [intOf]; omega
          | true =>
            rw [hdf] at HFN
            cases cvx with
            | false =>
              go_wp2_with fail
              go_roundw
              case rel =>
                refine ⟨j + 1, by go_num, by omega, ?_, HBW.out⟩
                rw [HFN.out]
                rfl
              case measure => simp [intOf]; omega
            | true =>
              go_wp2_with fail
              go_roundw
              case rel =>
                refine ⟨j + 1, by go_num, by omega, ?_, HBW.out⟩
                rw [HFN.out]
                simp only [Bool.and_self, if_true]
                go_num
              case measure => simp [intOf]; omega
    · obtain rfl : j = Tk.length := by omega
      have hge : ¬ ((Tk.length : Int) < (Tk.length : Int)) := by omega
      have HN : Hid (((Tk.take Tk.length).filter (matB stamp ck cp)).length = ts.length) := by
        have h1 := mat_len HPM.out stamp ck cp
        rw [HTS.out] at h1
        show _ = _
        rw [List.take_length]
        exact h1
      have HASC : Hid (ts.Pairwise (fun a b => befT a b = true)) := by
        have := mat_asc HORD.out stamp ck cp
        rw [HTS.out] at this
        exact this
      rw [HN.out]
      go_upto_region 23 with fail
      go_loopw [17] (fun vi wq => ∃ q2 : Nat, vi = .int .i64 q2 ∧ 1 ≤ q2 ∧ (q2 ≤ ts.length ∨ q2 = 1) ∧ Hid (Below w3.heap.size w3 wq)) (fun vi _ => ts.length + 1 - (intOf vi).toNat)
      case atStart => exact ⟨1, rfl, Nat.le_refl _, .inr rfl, HB.out⟩
      case round =>
        obtain ⟨q2, rfl, h1q, hq2, HBq⟩ := hrel
        by_cases hlq : q2 < ts.length
        · have hlq' : (q2 : Int) < (ts.length : Int) := by omega
          obtain ⟨p2, rfl⟩ : ∃ p2, q2 = p2 + 1 := ⟨q2 - 1, by omega⟩
          obtain ⟨t, ht⟩ : ∃ t, ts[p2 + 1]? = some t := ⟨ts[p2 + 1], List.getElem?_eq_getElem hlq⟩
          obtain ⟨s, hs⟩ : ∃ s, ts[p2]? = some s := ⟨ts[p2], List.getElem?_eq_getElem (by omega)⟩
          have hbf : befT s t = true := by
            have h3 := List.pairwise_iff_getElem.1 HASC.out p2 (p2 + 1) (by omega) hlq (by omega)
            rw [(List.getElem?_eq_some_iff.1 hs).2, (List.getElem?_eq_some_iff.1 ht).2] at h3
            exact h3
          obtain ⟨g, rfl, t0, t1⟩ := (HS3.out.below HBq.out).at ht
          obtain ⟨g', e', s0, s1⟩ := (HS3.out.below HBq.out).at hs
          cases e'
          obtain ⟨tS, tI⟩ := t
          obtain ⟨sS, sI⟩ := s
          simp only at t0 t1 s0 s1
          have hw1 : IntKind.i64.wrap (((p2 + 1 : Nat) : Int) - 1) = (p2 : Int) := by rw [IntKind.wrap_i64]; omega
          have hw2 : (0 : Int) ≤ (p2 : Int) := by omega
          have hw3 : (p2 : Int) < (ts.length : Int) := by omega
          unfold befT befB at hbf
          simp only [Bool.or_eq_true, Bool.and_eq_true, decide_eq_true_eq] at hbf
          clear ht hs
          rcases hbf with hb1 | ⟨hb1, hb2⟩
          · have e1 : decide (tS < sS) = false := by rw [decide_eq_false_iff_not]; omega
            have e2 : decide (tS = sS) = false := by rw [decide_eq_false_iff_not]; omega
            have e3 : ¬ tS < sS := by omega
            have e4 : ¬ tS = sS := by omega
            have e5 : (tS == sS) = false := by simpa using e4
            go_wp2_with fail
            go_quiet (fail)
            go_wp2_with fail
            go_roundw
            case rel => exact ⟨p2 + 1 + 1, by go_num, by omega, by omega, below_drewN HBq.out _⟩
            case measure => simp [intOf]; omega
          · subst hb1
            have e1 : decide (sS < sS) = false := by rw [decide_eq_false_iff_not]; omega
            have e3 : decide (tI ≤ sI) = false := by rw [decide_eq_false_iff_not]; omega
            have e4 : ¬ tI ≤ sI := by omega
            have e5 : ¬ sS < sS := by omega
            go_wp2_with fail
            go_quiet (fail)
            go_wp2_with fail
            go_roundw
            case rel => exact ⟨p2 + 1 + 1, by go_num, by omega, by omega, below_drewN HBq.out _⟩
            case measure => simp [intOf]; omega
        · have hgq : ¬ ((q2 : Int) < (ts.length : Int)) := by omega
          go_wp2_with fail
          go_ret
          exact ⟨rfl, xtrans2 HB3.out HBq.out⟩
end Go.Proofs.YtcoicoijllpgnaaDoor
