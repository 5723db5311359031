/-
  heraldref5: Check, its loop.
-/
import Derived.Test.YtaieijbdknfcjaaGreatDoorCDefs
namespace Go.Proofs.YtaieijbdknfcjaaGreatDoor
open Go.RowKit Classical
set_option linter.unusedVariables false
set_option linter.unusedSimpArgs false

set_option maxHeartbeats 6400000 in
set_option maxRecDepth 100000 in
theorem refCheck_main (st : Int) (p : ByteArray) (k : Int) (a : Option Addr) (c : Nat) (l : List SeenT) (w : World) (hs : Ss w a l) (hok : ∀ s ∈ l, s.p.size ≤ maxLen) (hl : l.length ≤ maxLen) (hs1 : 0 ≤ st) (hs2 : st ≤ 2147483647) (hip : isP p = true) (hk1 : 1 ≤ k) (hk2 : k ≤ 3) (h64 : l.length ≤ 64) (hl0 : ¬ l = []) :
    Calls Tryz.prog 22 #[.agg (shA st p k a l.length c)] w fun e w' => e = .returned (.int .i64 (rchk st p k l)) ∧ Below w.heap.size w w' := by
  unfold maxLen at hl
  have HS : Hid (Ss w a l) := hs
  have HOK : Hid (∀ s ∈ l, s.p.size ≤ maxLen) := hok
  have HB0 : Hid (Below w.heap.size w (w.alloc (.cells (shA st p k a l.length c) 24))) := (Below.refl _ _).alloc (Nat.le_refl _) _
  have HA0 : Hid ((w.alloc (.cells (shA st p k a l.length c) 24)).heap[w.heap.size]? = some (.cells (shA st p k a l.length c) 24 (0, 0))) := heap_alloc_new _ _
  clear hs hok
  have HST : Hid (isNum st = true) := by show _ = _; simp [isNum, hs1, hs2]
  have HI : Hid _ := refIs_any p (w.alloc (.cells (shA st p k a l.length c) 24))
  rw [hip] at HI
  have HIP : Hid (isP p = true) := hip
  clear hip
  have h64' : (l.length : Int) ≤ 64 := by omega
  have hz : ((l.length : Int) == 0) = false := by
    rw [beq_eq_false_iff_ne]
    exact fun e => hl0 (List.eq_nil_of_length_eq_zero (by omega))
  have HL0 : Hid (¬ l = []) := hl0
  clear hl0
  go_enter Tryz.func22, Tryz.ntmps22
  go_wp2_with fail
  refine Calls.mono HI.out ?_
  rintro e w2 ⟨rfl, hb2⟩
  have HB2 : Hid (Below w.heap.size w w2) := trans2 HB0.out hb2
  have HA2 : Hid (w2.heap[w.heap.size]? = some (.cells (shA st p k a l.length c) 24 (0, 0))) := kept_block hb2 HA0.out
  obtain ⟨a0, a1, a2, a3⟩ := cells_4 HA2.out
  clear hb2
  go_wp2_with fail
  clear a0 a1 a2 a3
  go_loopw [3] (fun i wr => ∃ q : Nat, i = .int .i64 q ∧ q ≤ l.length ∧ Hid (∀ (i : Nat) (n : SeenT), i < q → l[i]? = some n → RMay k p l i n) ∧ Hid (wr.heap[w.heap.size]? = some (.cells (shA st p k a l.length c) 24 (0, 0))) ∧ Hid (Below w.heap.size w wr)) (fun i _ => l.length - (intOf i).toNat)
  case atStart => exact ⟨0, rfl, Nat.zero_le _, (fun i n h => absurd h (Nat.not_lt_zero _)), HA2.out, HB2.out⟩
  case round =>
    obtain ⟨q, rfl, hq, HQ, HA, HB⟩ := hrel
    obtain ⟨a0, a1, a2, a3⟩ := cells_4 HA.out
    by_cases hlt : q < l.length
    · have hlt' : (q : Int) < (l.length : Int) := by omega
      obtain ⟨x, hx⟩ : ∃ n, l[q]? = some n := ⟨l[q], List.getElem?_eq_getElem hlt⟩
      obtain ⟨b, o, rfl, hb, x0, x1, x2⟩ := (HS.out.below HB.out).at hx
      have HX : Hid (l[q]? = some x) := hx
      have hwl : w.heap.size < wr.heap.size := lt_of_blk HA.out
      have HA1 : Hid ((wr.alloc (.cells (seC x) 36)).heap[w.heap.size]? = some (.cells (shA st p k (some ⟨b, o, none⟩) l.length c) 24 (0, 0))) := new_old HA.out _
      have HB1 : Hid (Below w.heap.size w (wr.alloc (.cells (seC x) 36))) := HB.out.alloc HB.out.size _
      have HN1 : Hid ((wr.alloc (.cells (seC x) 36)).heap[wr.heap.size]? = some (.cells (seC x) 36 (0, 0))) := heap_alloc_new _ _
      have HFI : Hid (∀ w', Below w.heap.size w w' → Calls Tryz.prog 43 #[.slice (some ⟨b, o, none⟩) l.length c, .string (upP x.p)] w' fun e w'' => ∃ r : Int, e = .returned (.int .i64 r) ∧ (0 ≤ r ↔ hasP l (upP x.p) = true) ∧ Below w'.heap.size w' w'') := fun w' hb' => refFind_any _ c l _ w' (HS.out.below hb') (by omega)
      clear hx
      cases hix : isP x.p with
      | false =>
        have HIS : Hid (∀ w, Calls Tryz.prog 39 #[.string x.p] w fun e w' => e = .returned (.bool false) ∧ Below w.heap.size w w') := fun w => by have := refIs_any x.p w; rw [hix] at this; exact this
        have HM : Hid (rchk st p k l = 51) := rchk_bad (fun h => by have := (h.2.2.2.2.2 q x HX.out).1; rw [hix] at this; cases this)
        clear hix
        go_wp2_with fail
        clear x0 x1 x2 a0 a1 a2 a3
        obtain ⟨a0, a1, a2, a3⟩ := cells_4 HA1.out
        obtain ⟨n0, n1, n2⟩ := cells_3 HN1.out
        refine (HIS.out _).mono ?_
        rintro e w3 ⟨rfl, hb3⟩
        have HA3 : Hid (w3.heap[w.heap.size]? = some (.cells (shA st p k (some ⟨b, o, none⟩) l.length c) 24 (0, 0))) := kept_block hb3 HA1.out
        have HN3 : Hid (w3.heap[wr.heap.size]? = some (.cells (seC x) 36 (0, 0))) := kept_block hb3 HN1.out
        have HB3 : Hid (Below w.heap.size w w3) := trans2 HB1.out hb3
        clear hb3 a0 a1 a2 a3 n0 n1 n2
        obtain ⟨a0, a1, a2, a3⟩ := cells_4 HA3.out
        obtain ⟨n0, n1, n2⟩ := cells_3 HN3.out
        go_wp2_with fail
        go_ret
        exact ⟨by rw [HM.out]; rfl, HB3.out⟩
      | true =>
        have HIS : Hid (∀ w, Calls Tryz.prog 39 #[.string x.p] w fun e w' => e = .returned (.bool true) ∧ Below w.heap.size w w') := fun w => by have := refIs_any x.p w; rw [hix] at this; exact this
        have HIX : Hid (isP x.p = true) := hix
        clear hix
        cases hib : inB k p x.p with
        | false =>
          have HIN : Hid (∀ w, Calls Tryz.prog 40 #[.int .i64 k, .string p, .string x.p] w fun e w' => e = .returned (.bool false) ∧ Below w.heap.size w w') := fun w => by have := in_any k p x.p w; rw [hib] at this; exact this
          have HM : Hid (rchk st p k l = 51) := rchk_bad (fun h => by have := (h.2.2.2.2.2 q x HX.out).2.1; rw [hib] at this; cases this)
          clear hib
          go_wp2_with fail
          clear x0 x1 x2 a0 a1 a2 a3
          obtain ⟨a0, a1, a2, a3⟩ := cells_4 HA1.out
          obtain ⟨n0, n1, n2⟩ := cells_3 HN1.out
          refine (HIS.out _).mono ?_
          rintro e w3 ⟨rfl, hb3⟩
          have HA3 : Hid (w3.heap[w.heap.size]? = some (.cells (shA st p k (some ⟨b, o, none⟩) l.length c) 24 (0, 0))) := kept_block hb3 HA1.out
          have HN3 : Hid (w3.heap[wr.heap.size]? = some (.cells (seC x) 36 (0, 0))) := kept_block hb3 HN1.out
          have HB3 : Hid (Below w.heap.size w w3) := trans2 HB1.out hb3
          clear hb3 a0 a1 a2 a3 n0 n1 n2
          obtain ⟨a0, a1, a2, a3⟩ := cells_4 HA3.out
          obtain ⟨n0, n1, n2⟩ := cells_3 HN3.out
          go_wp2_with fail
          refine (HIN.out _).mono ?_
          rintro e w4 ⟨rfl, hb4⟩
          have HA4 : Hid (w4.heap[w.heap.size]? = some (.cells (shA st p k (some ⟨b, o, none⟩) l.length c) 24 (0, 0))) := kept_block hb4 HA3.out
          have HN4 : Hid (w4.heap[wr.heap.size]? = some (.cells (seC x) 36 (0, 0))) := kept_block hb4 HN3.out
          have HB4 : Hid (Below w.heap.size w w4) := trans2 HB3.out hb4
          clear hb4 a0 a1 a2 a3 n0 n1 n2
          obtain ⟨a0, a1, a2, a3⟩ := cells_4 HA4.out
          obtain ⟨n0, n1, n2⟩ := cells_3 HN4.out
          go_wp2_with fail
          go_ret
          exact ⟨by rw [HM.out]; rfl, HB4.out⟩
        | true =>
          have HIN : Hid (∀ w, Calls Tryz.prog 40 #[.int .i64 k, .string p, .string x.p] w fun e w' => e = .returned (.bool true) ∧ Below w.heap.size w w') := fun w => by have := in_any k p x.p w; rw [hib] at this; exact this
          have HIB : Hid (inB k p x.p = true) := hib
          clear hib
          cases hfb : fitB x.d x.v with
          | false =>
            have HHO : Hid (∀ w, Calls Tryz.prog 41 #[.string x.d, .int .i64 x.v] w fun e w' => e = .returned (.bool false) ∧ w' = w) := fun w => by have := holds_any x.d x.v w; rw [hfb] at this; exact this
            have HM : Hid (rchk st p k l = 51) := rchk_bad (fun h => by have := (h.2.2.2.2.2 q x HX.out).2.2.1; rw [hfb] at this; cases this)
            clear hfb
            go_wp2_with fail
            clear x0 x1 x2 a0 a1 a2 a3
            obtain ⟨a0, a1, a2, a3⟩ := cells_4 HA1.out
            obtain ⟨n0, n1, n2⟩ := cells_3 HN1.out
            refine (HIS.out _).mono ?_
            rintro e w3 ⟨rfl, hb3⟩
            have HA3 : Hid (w3.heap[w.heap.size]? = some (.cells (shA st p k (some ⟨b, o, none⟩) l.length c) 24 (0, 0))) := kept_block hb3 HA1.out
            have HN3 : Hid (w3.heap[wr.heap.size]? = some (.cells (seC x) 36 (0, 0))) := kept_block hb3 HN1.out
            have HB3 : Hid (Below w.heap.size w w3) := trans2 HB1.out hb3
            clear hb3 a0 a1 a2 a3 n0 n1 n2
            obtain ⟨a0, a1, a2, a3⟩ := cells_4 HA3.out
            obtain ⟨n0, n1, n2⟩ := cells_3 HN3.out
            go_wp2_with fail
            refine (HIN.out _).mono ?_
            rintro e w4 ⟨rfl, hb4⟩
            have HA4 : Hid (w4.heap[w.heap.size]? = some (.cells (shA st p k (some ⟨b, o, none⟩) l.length c) 24 (0, 0))) := kept_block hb4 HA3.out
            have HN4 : Hid (w4.heap[wr.heap.size]? = some (.cells (seC x) 36 (0, 0))) := kept_block hb4 HN3.out
            have HB4 : Hid (Below w.heap.size w w4) := trans2 HB3.out hb4
            clear hb4 a0 a1 a2 a3 n0 n1 n2
            obtain ⟨a0, a1, a2, a3⟩ := cells_4 HA4.out
            obtain ⟨n0, n1, n2⟩ := cells_3 HN4.out
            go_wp2_with fail
            refine (HHO.out _).mono ?_
            rintro e w5 ⟨rfl, rfl⟩
            go_wp2_with fail
            go_ret
            exact ⟨by rw [HM.out]; rfl, HB4.out⟩
          | true =>
            have HHO : Hid (∀ w, Calls Tryz.prog 41 #[.string x.d, .int .i64 x.v] w fun e w' => e = .returned (.bool true) ∧ w' = w) := fun w => by have := holds_any x.d x.v w; rw [hfb] at this; exact this
            have HFB : Hid (fitB x.d x.v = true) := hfb
            clear hfb
            go_wp2_with fail
            clear x0 x1 x2 a0 a1 a2 a3
            obtain ⟨a0, a1, a2, a3⟩ := cells_4 HA1.out
            obtain ⟨n0, n1, n2⟩ := cells_3 HN1.out
            refine (HIS.out _).mono ?_
            rintro e w3 ⟨rfl, hb3⟩
            have HA3 : Hid (w3.heap[w.heap.size]? = some (.cells (shA st p k (some ⟨b, o, none⟩) l.length c) 24 (0, 0))) := kept_block hb3 HA1.out
            have HN3 : Hid (w3.heap[wr.heap.size]? = some (.cells (seC x) 36 (0, 0))) := kept_block hb3 HN1.out
            have HB3 : Hid (Below w.heap.size w w3) := trans2 HB1.out hb3
            clear hb3 a0 a1 a2 a3 n0 n1 n2
            obtain ⟨a0, a1, a2, a3⟩ := cells_4 HA3.out
            obtain ⟨n0, n1, n2⟩ := cells_3 HN3.out
            go_wp2_with fail
            refine (HIN.out _).mono ?_
            rintro e w4 ⟨rfl, hb4⟩
            have HA4 : Hid (w4.heap[w.heap.size]? = some (.cells (shA st p k (some ⟨b, o, none⟩) l.length c) 24 (0, 0))) := kept_block hb4 HA3.out
            have HN4 : Hid (w4.heap[wr.heap.size]? = some (.cells (seC x) 36 (0, 0))) := kept_block hb4 HN3.out
            have HB4 : Hid (Below w.heap.size w w4) := trans2 HB3.out hb4
            clear hb4 a0 a1 a2 a3 n0 n1 n2
            obtain ⟨a0, a1, a2, a3⟩ := cells_4 HA4.out
            obtain ⟨n0, n1, n2⟩ := cells_3 HN4.out
            go_wp2_with fail
            refine (HHO.out _).mono ?_
            rintro e w5 ⟨rfl, rfl⟩
            by_cases hq0 : q = 0
            · have HOD : Hid (∀ y, 0 < q → l[q - 1]? = some y → O y.p x.p < 0) := fun y h => by omega
              subst hq0
              go_wp2_with fail
              go_region
              have H5 : Hid (FC w w5.drew wr.heap.size (shA st p k (some ⟨b, o, none⟩) l.length c) (seC x)) := ⟨HA4.out, HN4.out, below_drew HB4.out⟩
              clear a0 a1 a2 a3 n0 n1 n2
              obtain ⟨a0, a1, a2, a3⟩ := cells_4 H5.out.pa
              obtain ⟨n0, n1, n2⟩ := cells_3 H5.out.pn
              by_cases hk2 : k = 2
              · by_cases hbr : x.d = ⟨#[]⟩ ∧ x.v = 0
                · have HBA : Hid (bareB k x = true) := by show _ = _; simp [bareB, hbr.1, hbr.2]
                  obtain ⟨hbd, hbv⟩ := hbr
                  go_wp2_with fail
                  clear hk2 hbd hbv
                  by_cases hxp : x.p = p
                  · have HOKx : Hid (RMay k p l 0 x) := ⟨HIX.out, HIB.out, HFB.out, HOD.out, HBA.out, .inl hxp⟩
                    have HE : Hid (x.p = p) := hxp
                    go_region
                    go_wp2_with fail
                    go_roundw
                    case rel => exact ⟨0 + 1, (by first | go_num | rfl), by omega, rmay_step HQ.out HX.out HOKx.out, H5.out.pa, below_drew H5.out.low⟩
                    case measure => simp [intOf]; omega
                  · have hxp' := list_ne hxp
                    have HNE : Hid (¬ x.p = p) := hxp
                    cases hhp : hasP l (upP x.p) with
                    | true =>
                      have HOKx : Hid (RMay k p l 0 x) := ⟨HIX.out, HIB.out, HFB.out, HOD.out, HBA.out, .inr hhp⟩
                      have HHP : Hid (hasP l (upP x.p) = true) := hhp
                      clear hhp hxp
                      go_region_held3 (fun w' => w'.cell? ⟨wr.heap.size, 0, none⟩ = some (.string x.p) ∧ w'.cell? ⟨w.heap.size, 1, none⟩ = some (.string p) ∧ w'.cell? ⟨w.heap.size, 3, none⟩ = some (.slice (some ⟨b, o, none⟩) l.length c)) (first | go_keep | exact ⟨n0, a1, a3⟩)
                        (first
                        | (go_at_call 43; refine (HFI.out _ H6.out.low).mono ?_; rintro e w7 ⟨r9, rfl, hrr, hb7⟩
                           have HRR : Hid (0 ≤ r9 ↔ hasP l (upP x.p) = true) := hrr
                           have H7 : Hid (FC w w7 wr.heap.size (shA st p k (some ⟨b, o, none⟩) l.length c) (seC x)) := H6.out.below hb7
                           clear hb7 hrr a0 a1 a2 a3 n0 n1 n2
                           obtain ⟨a0, a1, a2, a3⟩ := cells_4 H7.out.pa
                           obtain ⟨n0, n1, n2⟩ := cells_3 H7.out.pn)
                        | (go_at_call 44; refine (above_any x.p _).mono ?_; rintro e w6 ⟨rfl, hb6⟩
                           have H6 : Hid (FC w w6 wr.heap.size (shA st p k (some ⟨b, o, none⟩) l.length c) (seC x)) := H5.out.below (of_drew hb6)
                           clear hb6 a0 a1 a2 a3 n0 n1 n2
                           obtain ⟨a0, a1, a2, a3⟩ := cells_4 H6.out.pa
                           obtain ⟨n0, n1, n2⟩ := cells_3 H6.out.pn)
                        | fail)
                      have hr0 : 0 ≤ r9 := HRR.out.2 HHP.out
                      go_wp2_with fail
                      go_roundw
                      case rel => exact ⟨0 + 1, (by first | go_num | rfl), by omega, rmay_step HQ.out HX.out HOKx.out, H7.out.pa, H7.out.low⟩
                      case measure => simp [intOf]; omega
                    | false =>
                      have HM : Hid (rchk st p k l = 51) := rchk_bad (fun h => by
                        rcases (h.2.2.2.2.2 0 x HX.out).2.2.2.2.2 with h1 | h1
                        · exact hxp h1
                        · rw [hhp] at h1; cases h1)
                      have HHP : Hid (hasP l (upP x.p) = false) := hhp
                      clear hhp hxp
                      go_region_held3 (fun w' => w'.cell? ⟨wr.heap.size, 0, none⟩ = some (.string x.p) ∧ w'.cell? ⟨w.heap.size, 1, none⟩ = some (.string p) ∧ w'.cell? ⟨w.heap.size, 3, none⟩ = some (.slice (some ⟨b, o, none⟩) l.length c)) (first | go_keep | exact ⟨n0, a1, a3⟩)
                        (first
                        | (go_at_call 43; refine (HFI.out _ H6.out.low).mono ?_; rintro e w7 ⟨r9, rfl, hrr, hb7⟩
                           have HRR : Hid (0 ≤ r9 ↔ hasP l (upP x.p) = true) := hrr
                           have H7 : Hid (FC w w7 wr.heap.size (shA st p k (some ⟨b, o, none⟩) l.length c) (seC x)) := H6.out.below hb7
                           clear hb7 hrr a0 a1 a2 a3 n0 n1 n2
                           obtain ⟨a0, a1, a2, a3⟩ := cells_4 H7.out.pa
                           obtain ⟨n0, n1, n2⟩ := cells_3 H7.out.pn)
                        | (go_at_call 44; refine (above_any x.p _).mono ?_; rintro e w6 ⟨rfl, hb6⟩
                           have H6 : Hid (FC w w6 wr.heap.size (shA st p k (some ⟨b, o, none⟩) l.length c) (seC x)) := H5.out.below (of_drew hb6)
                           clear hb6 a0 a1 a2 a3 n0 n1 n2
                           obtain ⟨a0, a1, a2, a3⟩ := cells_4 H6.out.pa
                           obtain ⟨n0, n1, n2⟩ := cells_3 H6.out.pn)
                        | fail)
                      have hr0 : ¬ 0 ≤ r9 := fun h => by have := HRR.out.1 h; rw [HHP.out] at this; cases this
                      have hr1 : r9 < 0 := by omega
                      go_wp2_with fail
                      go_ret
                      exact ⟨by rw [HM.out]; rfl, H7.out.low⟩
                · have HM : Hid (rchk st p k l = 51) := rchk_bad (fun h => hbr (by
                    have := (h.2.2.2.2.2 0 x HX.out).2.2.2.2.1
                    simpa [bareB, hk2] using this))
                  have hcase : (x.d.toList == []) = false ∨ (x.d = ⟨#[]⟩ ∧ (x.v == 0) = false) := by
                    by_cases hd : x.d = ⟨#[]⟩
                    · exact .inr ⟨hd, by rw [beq_eq_false_iff_ne]; exact fun hv => hbr ⟨hd, hv⟩⟩
                    · exact .inl (by rw [beq_eq_false_iff_ne]; exact nil_ne hd)
                  clear hbr
                  rcases hcase with h1 | ⟨h0, h1⟩
                  all_goals
                    go_wp2_with fail
                    go_ret
                    exact ⟨by rw [HM.out]; rfl, H5.out.low⟩
              · have HBA : Hid (bareB k x = true) := by show _ = _; simp [bareB, hk2]
                have hk2' : (k == 2) = false := by rw [beq_eq_false_iff_ne]; exact hk2
                clear hk2
                go_wp2_with fail
                by_cases hxp : x.p = p
                · have HOKx : Hid (RMay k p l 0 x) := ⟨HIX.out, HIB.out, HFB.out, HOD.out, HBA.out, .inl hxp⟩
                  have HE : Hid (x.p = p) := hxp
                  go_region
                  go_wp2_with fail
                  go_roundw
                  case rel => exact ⟨0 + 1, (by first | go_num | rfl), by omega, rmay_step HQ.out HX.out HOKx.out, H5.out.pa, below_drew H5.out.low⟩
                  case measure => simp [intOf]; omega
                · have hxp' := list_ne hxp
                  have HNE : Hid (¬ x.p = p) := hxp
                  cases hhp : hasP l (upP x.p) with
                  | true =>
                    have HOKx : Hid (RMay k p l 0 x) := ⟨HIX.out, HIB.out, HFB.out, HOD.out, HBA.out, .inr hhp⟩
                    have HHP : Hid (hasP l (upP x.p) = true) := hhp
                    clear hhp hxp
                    go_region_held3 (fun w' => w'.cell? ⟨wr.heap.size, 0, none⟩ = some (.string x.p) ∧ w'.cell? ⟨w.heap.size, 1, none⟩ = some (.string p) ∧ w'.cell? ⟨w.heap.size, 3, none⟩ = some (.slice (some ⟨b, o, none⟩) l.length c)) (first | go_keep | exact ⟨n0, a1, a3⟩)
                      (first
                      | (go_at_call 43; refine (HFI.out _ H6.out.low).mono ?_; rintro e w7 ⟨r9, rfl, hrr, hb7⟩
                         have HRR : Hid (0 ≤ r9 ↔ hasP l (upP x.p) = true) := hrr
                         have H7 : Hid (FC w w7 wr.heap.size (shA st p k (some ⟨b, o, none⟩) l.length c) (seC x)) := H6.out.below hb7
                         clear hb7 hrr a0 a1 a2 a3 n0 n1 n2
                         obtain ⟨a0, a1, a2, a3⟩ := cells_4 H7.out.pa
                         obtain ⟨n0, n1, n2⟩ := cells_3 H7.out.pn)
                      | (go_at_call 44; refine (above_any x.p _).mono ?_; rintro e w6 ⟨rfl, hb6⟩
                         have H6 : Hid (FC w w6 wr.heap.size (shA st p k (some ⟨b, o, none⟩) l.length c) (seC x)) := H5.out.below (of_drew hb6)
                         clear hb6 a0 a1 a2 a3 n0 n1 n2
                         obtain ⟨a0, a1, a2, a3⟩ := cells_4 H6.out.pa
                         obtain ⟨n0, n1, n2⟩ := cells_3 H6.out.pn)
                      | fail)
                    have hr0 : 0 ≤ r9 := HRR.out.2 HHP.out
                    go_wp2_with fail
                    go_roundw
                    case rel => exact ⟨0 + 1, (by first | go_num | rfl), by omega, rmay_step HQ.out HX.out HOKx.out, H7.out.pa, H7.out.low⟩
                    case measure => simp [intOf]; omega
                  | false =>
                    have HM : Hid (rchk st p k l = 51) := rchk_bad (fun h => by
                      rcases (h.2.2.2.2.2 0 x HX.out).2.2.2.2.2 with h1 | h1
                      · exact hxp h1
                      · rw [hhp] at h1; cases h1)
                    have HHP : Hid (hasP l (upP x.p) = false) := hhp
                    clear hhp hxp
                    go_region_held3 (fun w' => w'.cell? ⟨wr.heap.size, 0, none⟩ = some (.string x.p) ∧ w'.cell? ⟨w.heap.size, 1, none⟩ = some (.string p) ∧ w'.cell? ⟨w.heap.size, 3, none⟩ = some (.slice (some ⟨b, o, none⟩) l.length c)) (first | go_keep | exact ⟨n0, a1, a3⟩)
                      (first
                      | (go_at_call 43; refine (HFI.out _ H6.out.low).mono ?_; rintro e w7 ⟨r9, rfl, hrr, hb7⟩
                         have HRR : Hid (0 ≤ r9 ↔ hasP l (upP x.p) = true) := hrr
                         have H7 : Hid (FC w w7 wr.heap.size (shA st p k (some ⟨b, o, none⟩) l.length c) (seC x)) := H6.out.below hb7
                         clear hb7 hrr a0 a1 a2 a3 n0 n1 n2
                         obtain ⟨a0, a1, a2, a3⟩ := cells_4 H7.out.pa
                         obtain ⟨n0, n1, n2⟩ := cells_3 H7.out.pn)
                      | (go_at_call 44; refine (above_any x.p _).mono ?_; rintro e w6 ⟨rfl, hb6⟩
                         have H6 : Hid (FC w w6 wr.heap.size (shA st p k (some ⟨b, o, none⟩) l.length c) (seC x)) := H5.out.below (of_drew hb6)
                         clear hb6 a0 a1 a2 a3 n0 n1 n2
                         obtain ⟨a0, a1, a2, a3⟩ := cells_4 H6.out.pa
                         obtain ⟨n0, n1, n2⟩ := cells_3 H6.out.pn)
                      | fail)
                    have hr0 : ¬ 0 ≤ r9 := fun h => by have := HRR.out.1 h; rw [HHP.out] at this; cases this
                    have hr1 : r9 < 0 := by omega
                    go_wp2_with fail
                    go_ret
                    exact ⟨by rw [HM.out]; rfl, H7.out.low⟩
            · obtain ⟨m, hm⟩ : ∃ m, q = m + 1 := ⟨q - 1, by omega⟩
              obtain ⟨y, hy⟩ : ∃ y, l[m]? = some y := ⟨l[m]'(by omega), List.getElem?_eq_getElem _⟩
              have HYP : Hid (∀ y', l[q - 1]? = some y' → y' = y) := fun y' h => by rw [hm, Nat.add_sub_cancel, hy] at h; cases h; rfl
              have HOR : Hid (∀ w, Calls Tryz.prog 42 #[.string y.p, .string x.p] w fun e w' => e = .returned (.int .i64 (O y.p x.p)) ∧ w' = w) := fun w => ref_any y.p x.p (HOK.out y (List.mem_of_getElem? hy)) (HOK.out x (List.mem_of_getElem? HX.out)) w
              obtain ⟨bb, oo, hbo, hyl, y0, y1, y2⟩ := (HS.out.below HB4.out).at hy
              obtain ⟨rfl, rfl⟩ : b = bb ∧ o = oo := by simpa using hbo
              have hq0' : (0 : Int) < (q : Int) := by omega
              have hq0n : 0 < q := by omega
              have hqw : IntKind.i64.wrap ((q : Int) - 1) = (m : Int) := by rw [IntKind.wrap_i64]; omega
              have hml1 : m < l.length := by omega
              have hm1 : (m : Int) < (l.length : Int) := by omega
              have HYM : Hid (l[q - 1]? = some y) := by show _ = _; rw [hm]; exact hy
              clear hq0 hy hm hbo hyl
              obtain ⟨r, hr⟩ : ∃ r, O y.p x.p = r := ⟨_, rfl⟩
              have HRO : Hid (O y.p x.p = r) := hr
              rw [hr] at HOR
              clear hr
              by_cases hneg : r < 0
              · have HOD : Hid (∀ y, 0 < q → l[q - 1]? = some y → O y.p x.p < 0) := fun y' _ h => by rw [HYP.out y' h, HRO.out]; exact hneg
                go_wp2_with fail
                go_region_held3 (fun w' => w'.cell? ⟨w.heap.size, 3, none⟩ = some (.slice (some ⟨b, o, none⟩) l.length c) ∧ w'.cell? ⟨wr.heap.size, 0, none⟩ = some (.string x.p) ∧ w'.cell? ⟨b, o + m * 3, none⟩ = some (.string y.p)) (first | go_keep | exact ⟨a3, n0, y0⟩)
                  (first
                  | (go_at_call 42; refine (HOR.out _).mono ?_; rintro e w6 ⟨rfl, rfl⟩)
                  | fail)
                have H5 : Hid (FC w w5.drew wr.heap.size (shA st p k (some ⟨b, o, none⟩) l.length c) (seC x)) := ⟨HA4.out, HN4.out, below_drew HB4.out⟩
                clear a0 a1 a2 a3 n0 n1 n2
                obtain ⟨a0, a1, a2, a3⟩ := cells_4 H5.out.pa
                obtain ⟨n0, n1, n2⟩ := cells_3 H5.out.pn
                by_cases hk2 : k = 2
                · by_cases hbr : x.d = ⟨#[]⟩ ∧ x.v = 0
                  · have HBA : Hid (bareB k x = true) := by show _ = _; simp [bareB, hbr.1, hbr.2]
                    obtain ⟨hbd, hbv⟩ := hbr
                    go_wp2_with fail
                    clear hk2 hbd hbv
                    by_cases hxp : x.p = p
                    · have HOKx : Hid (RMay k p l q x) := ⟨HIX.out, HIB.out, HFB.out, HOD.out, HBA.out, .inl hxp⟩
                      have HE : Hid (x.p = p) := hxp
                      go_region
                      go_wp2_with fail
                      go_roundw
                      case rel => exact ⟨q + 1, by go_num, by omega, rmay_step HQ.out HX.out HOKx.out, H5.out.pa, below_drew H5.out.low⟩
                      case measure => simp [intOf]; omega
                    · have hxp' := list_ne hxp
                      have HNE : Hid (¬ x.p = p) := hxp
                      cases hhp : hasP l (upP x.p) with
                      | true =>
                        have HOKx : Hid (RMay k p l q x) := ⟨HIX.out, HIB.out, HFB.out, HOD.out, HBA.out, .inr hhp⟩
                        have HHP : Hid (hasP l (upP x.p) = true) := hhp
                        clear hhp hxp
                        go_region_held3 (fun w' => w'.cell? ⟨wr.heap.size, 0, none⟩ = some (.string x.p) ∧ w'.cell? ⟨w.heap.size, 1, none⟩ = some (.string p) ∧ w'.cell? ⟨w.heap.size, 3, none⟩ = some (.slice (some ⟨b, o, none⟩) l.length c)) (first | go_keep | exact ⟨n0, a1, a3⟩)
                          (first
                          | (go_at_call 43; refine (HFI.out _ H6.out.low).mono ?_; rintro e w7 ⟨r9, rfl, hrr, hb7⟩
                             have HRR : Hid (0 ≤ r9 ↔ hasP l (upP x.p) = true) := hrr
                             have H7 : Hid (FC w w7 wr.heap.size (shA st p k (some ⟨b, o, none⟩) l.length c) (seC x)) := H6.out.below hb7
                             clear hb7 hrr a0 a1 a2 a3 n0 n1 n2
                             obtain ⟨a0, a1, a2, a3⟩ := cells_4 H7.out.pa
                             obtain ⟨n0, n1, n2⟩ := cells_3 H7.out.pn)
                          | (go_at_call 44; refine (above_any x.p _).mono ?_; rintro e w6 ⟨rfl, hb6⟩
                             have H6 : Hid (FC w w6 wr.heap.size (shA st p k (some ⟨b, o, none⟩) l.length c) (seC x)) := H5.out.below (of_drew hb6)
                             clear hb6 a0 a1 a2 a3 n0 n1 n2
                             obtain ⟨a0, a1, a2, a3⟩ := cells_4 H6.out.pa
                             obtain ⟨n0, n1, n2⟩ := cells_3 H6.out.pn)
                          | fail)
                        have hr0 : 0 ≤ r9 := HRR.out.2 HHP.out
                        go_wp2_with fail
                        go_roundw
                        case rel => exact ⟨q + 1, by go_num, by omega, rmay_step HQ.out HX.out HOKx.out, H7.out.pa, H7.out.low⟩
                        case measure => simp [intOf]; omega
                      | false =>
                        have HM : Hid (rchk st p k l = 51) := rchk_bad (fun h => by
                          rcases (h.2.2.2.2.2 q x HX.out).2.2.2.2.2 with h1 | h1
                          · exact hxp h1
                          · rw [hhp] at h1; cases h1)
                        have HHP : Hid (hasP l (upP x.p) = false) := hhp
                        clear hhp hxp
                        go_region_held3 (fun w' => w'.cell? ⟨wr.heap.size, 0, none⟩ = some (.string x.p) ∧ w'.cell? ⟨w.heap.size, 1, none⟩ = some (.string p) ∧ w'.cell? ⟨w.heap.size, 3, none⟩ = some (.slice (some ⟨b, o, none⟩) l.length c)) (first | go_keep | exact ⟨n0, a1, a3⟩)
                          (first
                          | (go_at_call 43; refine (HFI.out _ H6.out.low).mono ?_; rintro e w7 ⟨r9, rfl, hrr, hb7⟩
                             have HRR : Hid (0 ≤ r9 ↔ hasP l (upP x.p) = true) := hrr
                             have H7 : Hid (FC w w7 wr.heap.size (shA st p k (some ⟨b, o, none⟩) l.length c) (seC x)) := H6.out.below hb7
                             clear hb7 hrr a0 a1 a2 a3 n0 n1 n2
                             obtain ⟨a0, a1, a2, a3⟩ := cells_4 H7.out.pa
                             obtain ⟨n0, n1, n2⟩ := cells_3 H7.out.pn)
                          | (go_at_call 44; refine (above_any x.p _).mono ?_; rintro e w6 ⟨rfl, hb6⟩
                             have H6 : Hid (FC w w6 wr.heap.size (shA st p k (some ⟨b, o, none⟩) l.length c) (seC x)) := H5.out.below (of_drew hb6)
                             clear hb6 a0 a1 a2 a3 n0 n1 n2
                             obtain ⟨a0, a1, a2, a3⟩ := cells_4 H6.out.pa
                             obtain ⟨n0, n1, n2⟩ := cells_3 H6.out.pn)
                          | fail)
                        have hr0 : ¬ 0 ≤ r9 := fun h => by have := HRR.out.1 h; rw [HHP.out] at this; cases this
                        have hr1 : r9 < 0 := by omega
                        go_wp2_with fail
                        go_ret
                        exact ⟨by rw [HM.out]; rfl, H7.out.low⟩
                  · have HM : Hid (rchk st p k l = 51) := rchk_bad (fun h => hbr (by
                      have := (h.2.2.2.2.2 q x HX.out).2.2.2.2.1
                      simpa [bareB, hk2] using this))
                    have hcase : (x.d.toList == []) = false ∨ (x.d = ⟨#[]⟩ ∧ (x.v == 0) = false) := by
                      by_cases hd : x.d = ⟨#[]⟩
                      · exact .inr ⟨hd, by rw [beq_eq_false_iff_ne]; exact fun hv => hbr ⟨hd, hv⟩⟩
                      · exact .inl (by rw [beq_eq_false_iff_ne]; exact nil_ne hd)
                    clear hbr
                    rcases hcase with h1 | ⟨h0, h1⟩
                    all_goals
                      go_wp2_with fail
                      go_ret
                      exact ⟨by rw [HM.out]; rfl, H5.out.low⟩
                · have HBA : Hid (bareB k x = true) := by show _ = _; simp [bareB, hk2]
                  have hk2' : (k == 2) = false := by rw [beq_eq_false_iff_ne]; exact hk2
                  clear hk2
                  go_wp2_with fail
                  by_cases hxp : x.p = p
                  · have HOKx : Hid (RMay k p l q x) := ⟨HIX.out, HIB.out, HFB.out, HOD.out, HBA.out, .inl hxp⟩
                    have HE : Hid (x.p = p) := hxp
                    go_region
                    go_wp2_with fail
                    go_roundw
                    case rel => exact ⟨q + 1, by go_num, by omega, rmay_step HQ.out HX.out HOKx.out, H5.out.pa, below_drew H5.out.low⟩
                    case measure => simp [intOf]; omega
                  · have hxp' := list_ne hxp
                    have HNE : Hid (¬ x.p = p) := hxp
                    cases hhp : hasP l (upP x.p) with
                    | true =>
                      have HOKx : Hid (RMay k p l q x) := ⟨HIX.out, HIB.out, HFB.out, HOD.out, HBA.out, .inr hhp⟩
                      have HHP : Hid (hasP l (upP x.p) = true) := hhp
                      clear hhp hxp
                      go_region_held3 (fun w' => w'.cell? ⟨wr.heap.size, 0, none⟩ = some (.string x.p) ∧ w'.cell? ⟨w.heap.size, 1, none⟩ = some (.string p) ∧ w'.cell? ⟨w.heap.size, 3, none⟩ = some (.slice (some ⟨b, o, none⟩) l.length c)) (first | go_keep | exact ⟨n0, a1, a3⟩)
                        (first
                        | (go_at_call 43; refine (HFI.out _ H6.out.low).mono ?_; rintro e w7 ⟨r9, rfl, hrr, hb7⟩
                           have HRR : Hid (0 ≤ r9 ↔ hasP l (upP x.p) = true) := hrr
                           have H7 : Hid (FC w w7 wr.heap.size (shA st p k (some ⟨b, o, none⟩) l.length c) (seC x)) := H6.out.below hb7
                           clear hb7 hrr a0 a1 a2 a3 n0 n1 n2
                           obtain ⟨a0, a1, a2, a3⟩ := cells_4 H7.out.pa
                           obtain ⟨n0, n1, n2⟩ := cells_3 H7.out.pn)
                        | (go_at_call 44; refine (above_any x.p _).mono ?_; rintro e w6 ⟨rfl, hb6⟩
                           have H6 : Hid (FC w w6 wr.heap.size (shA st p k (some ⟨b, o, none⟩) l.length c) (seC x)) := H5.out.below (of_drew hb6)
                           clear hb6 a0 a1 a2 a3 n0 n1 n2
                           obtain ⟨a0, a1, a2, a3⟩ := cells_4 H6.out.pa
                           obtain ⟨n0, n1, n2⟩ := cells_3 H6.out.pn)
                        | fail)
                      have hr0 : 0 ≤ r9 := HRR.out.2 HHP.out
                      go_wp2_with fail
                      go_roundw
                      case rel => exact ⟨q + 1, by go_num, by omega, rmay_step HQ.out HX.out HOKx.out, H7.out.pa, H7.out.low⟩
                      case measure => simp [intOf]; omega
                    | false =>
                      have HM : Hid (rchk st p k l = 51) := rchk_bad (fun h => by
                        rcases (h.2.2.2.2.2 q x HX.out).2.2.2.2.2 with h1 | h1
                        · exact hxp h1
                        · rw [hhp] at h1; cases h1)
                      have HHP : Hid (hasP l (upP x.p) = false) := hhp
                      clear hhp hxp
                      go_region_held3 (fun w' => w'.cell? ⟨wr.heap.size, 0, none⟩ = some (.string x.p) ∧ w'.cell? ⟨w.heap.size, 1, none⟩ = some (.string p) ∧ w'.cell? ⟨w.heap.size, 3, none⟩ = some (.slice (some ⟨b, o, none⟩) l.length c)) (first | go_keep | exact ⟨n0, a1, a3⟩)
                        (first
                        | (go_at_call 43; refine (HFI.out _ H6.out.low).mono ?_; rintro e w7 ⟨r9, rfl, hrr, hb7⟩
                           have HRR : Hid (0 ≤ r9 ↔ hasP l (upP x.p) = true) := hrr
                           have H7 : Hid (FC w w7 wr.heap.size (shA st p k (some ⟨b, o, none⟩) l.length c) (seC x)) := H6.out.below hb7
                           clear hb7 hrr a0 a1 a2 a3 n0 n1 n2
                           obtain ⟨a0, a1, a2, a3⟩ := cells_4 H7.out.pa
                           obtain ⟨n0, n1, n2⟩ := cells_3 H7.out.pn)
                        | (go_at_call 44; refine (above_any x.p _).mono ?_; rintro e w6 ⟨rfl, hb6⟩
                           have H6 : Hid (FC w w6 wr.heap.size (shA st p k (some ⟨b, o, none⟩) l.length c) (seC x)) := H5.out.below (of_drew hb6)
                           clear hb6 a0 a1 a2 a3 n0 n1 n2
                           obtain ⟨a0, a1, a2, a3⟩ := cells_4 H6.out.pa
                           obtain ⟨n0, n1, n2⟩ := cells_3 H6.out.pn)
                        | fail)
                      have hr0 : ¬ 0 ≤ r9 := fun h => by have := HRR.out.1 h; rw [HHP.out] at this; cases this
                      have hr1 : r9 < 0 := by omega
                      go_wp2_with fail
                      go_ret
                      exact ⟨by rw [HM.out]; rfl, H7.out.low⟩
              · have HM : Hid (rchk st p k l = 51) := rchk_bad (fun h => by
                  have := (h.2.2.2.2.2 q x HX.out).2.2.2.1 y (by omega) HYM.out
                  rw [HRO.out] at this
                  omega)
                have hneg' : 0 ≤ r := by omega
                go_wp2_with fail
                go_region_held3 (fun w' => w'.cell? ⟨w.heap.size, 3, none⟩ = some (.slice (some ⟨b, o, none⟩) l.length c) ∧ w'.cell? ⟨wr.heap.size, 0, none⟩ = some (.string x.p) ∧ w'.cell? ⟨b, o + m * 3, none⟩ = some (.string y.p)) (first | go_keep | exact ⟨a3, n0, y0⟩)
                  (first
                  | (go_at_call 42; refine (HOR.out _).mono ?_; rintro e w6 ⟨rfl, rfl⟩)
                  | fail)
                have H5 : Hid (FC w w5.drew wr.heap.size (shA st p k (some ⟨b, o, none⟩) l.length c) (seC x)) := ⟨HA4.out, HN4.out, below_drew HB4.out⟩
                go_wp2_with fail
                go_ret
                exact ⟨by rw [HM.out]; rfl, H5.out.low⟩
    · have hge : ¬ (q : Int) < (l.length : Int) := by omega
      have HM : Hid (rchk st p k l = 0) := rchk_good ⟨HST.out, HIP.out, ⟨hk1, hk2⟩, h64, (fun h => HL0.out h.2), fun i n hn => HQ.out i n (by have := (List.getElem?_eq_some_iff.1 hn).1; omega) hn⟩
      go_wp2_with fail
      go_ret
      exact ⟨by rw [HM.out]; rfl, HB.out⟩
end Go.Proofs.YtaieijbdknfcjaaGreatDoor
