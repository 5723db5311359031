import Derived.Test.YtbamkdohaofgdaaGreatDoorGFoldC
namespace Go.Proofs.YtbamkdohaofgdaaGreatDoor
open Go.RowKit Classical
set_option linter.unusedVariables false
set_option linter.unusedSimpArgs false

theorem inv_fold {k : Int} {p : ByteArray} : ∀ {cs : List ChT} {l m : List SeenT}, InvF l → foldF k p l cs = some m → InvF m
  | [], l, m, h, hf => by simp only [foldF] at hf; cases hf; exact h
  | c :: r, l, m, h, hf => by
    simp only [foldF] at hf
    cases hs : stepF k p l c with
    | none => rw [hs] at hf; cases hf
    | some m' => rw [hs] at hf; exact inv_fold (inv_step h hs) hf
theorem take_snocC {l : List ChT} {q : Nat} {c : ChT} (h : l[q]? = some c) : l.take (q + 1) = l.take q ++ [c] := by rw [List.take_add_one, h]; rfl
theorem ownsLowG {w : World} {B B' e s n : Nat} {v : Value} {xs : List Value} (h : w.ownsRow B e s v n xs) (hb : B' ≤ B) : w.ownsRow B' e s v n xs := by
  refine ⟨h.1, ?_⟩
  rcases h.2 with h0 | ⟨g, cap, cur, hv, hB, r⟩
  · exact .inl h0
  · exact .inr ⟨g, cap, cur, hv, Nat.le_trans hb hB, r⟩
theorem put4_otherG (w : World) (g : Nat) (x0 x1 x2 x3 : Value) (j : Nat) (hj : j ≠ g) : (put_4 w g x0 x1 x2 x3).heap[j]? = w.heap[j]? := by
  unfold put_4
  rw [Below.heap_setCell _ _ _ _ hj, Below.heap_setCell _ _ _ _ hj, Below.heap_setCell _ _ _ _ hj, Below.heap_setCell _ _ _ _ hj]
/-- The shot that is folded stands in its box. -/
theorem PAt.start {W w : World} {bs g : Nat} {st : Int} {p : ByteArray} {k : Int} {n cap : Nat} {l : List SeenT} {x0 x1 x2 x3 : Value} (low : Below W.heap.size W w) (bsl : W.heap.size ≤ bs) (box : w.heap[bs]? = some (.cells #[x0, x1, x2, x3] 24 (0, 0))) (len : l.length = n) (row : w.ownsRow W.heap.size 52 3 (.slice (some ⟨g, 0, none⟩) n cap) n (seCs l)) :
    PAt W (put_4 w bs (.int .i64 st) (.string p) (.int .i64 k) (.slice (some ⟨g, 0, none⟩) n cap)) bs st p k (some ⟨g, 0, none⟩) n cap l := by
  refine ⟨fillB_4 low bsl, bsl, fill_4 box, len, owns_same row (fun j hj => put4_otherG w bs _ _ _ _ j (fun e => ?_))⟩
  rcases row.2 with ⟨h0, _⟩ | ⟨g', cap', cur, hv, _, hg, _⟩
  · cases h0
  · cases hv
    cases hj
    rw [show g = bs from e, box] at hg
    cases hg
theorem PAt.capL {W w : World} {bs : Nat} {st : Int} {p : ByteArray} {k : Int} {a : Option Addr} {n cap : Nat} {l : List SeenT} (h : PAt W w bs st p k a n cap l) : l.length ≤ cap := by
  rw [h.len]
  rcases h.row.2 with ⟨h0, _⟩ | ⟨g', cap', cur, hv, _, _, hn, _⟩
  · simp only [Value.slice.injEq] at h0
    omega
  · simp only [Value.slice.injEq] at hv
    omega
theorem PAt.loL {W w : World} {bs : Nat} {st : Int} {p : ByteArray} {k : Int} {a : Option Addr} {n cap : Nat} {l : List SeenT} (h : PAt W w bs st p k a n cap l) (b o : Nat) (e : a = some ⟨b, o, none⟩) : W.heap.size ≤ b := by
  rcases h.row.2 with ⟨h0, _⟩ | ⟨g', cap', cur, hv, hB, _⟩
  · simp only [Value.slice.injEq] at h0
    rw [h0.1] at e
    cases e
  · simp only [Value.slice.injEq] at hv
    rw [hv.1] at e
    cases e
    exact hB
theorem PAt.drew {W w : World} {bs : Nat} {st : Int} {p : ByteArray} {k : Int} {a : Option Addr} {n cap : Nat} {l : List SeenT} (h : PAt W w bs st p k a n cap l) : PAt W w.drew bs st p k a n cap l := ⟨below_drew h.low, h.bsl, h.box, h.len, h.row⟩
theorem ss_kept {w w' : World} {la : Option Addr} {l : List SeenT} (h : Ss w la l) (hz : w.heap.size ≤ w'.heap.size) (hk : ∀ b o, la = some ⟨b, o, none⟩ → w'.heap[b]? = w.heap[b]?) : Ss w' la l := by
  rcases h with h | ⟨b, o, ha, hlt, hc⟩
  · exact .inl h
  · refine .inr ⟨b, o, ha, Nat.lt_of_lt_of_le hlt hz, fun i s hi j x hx => ?_⟩
    rw [World.cell?_of_block (w := w) (hk b o ha)]
    exact hc i s hi j x hx
theorem put4_sizeG (w : World) (g : Nat) (x0 x1 x2 x3 : Value) : (put_4 w g x0 x1 x2 x3).heap.size = w.heap.size := by simp [put_4]
set_option maxHeartbeats 12800000 in
set_option maxRecDepth 100000 in
theorem fold_good (st : Int) (p : ByteArray) (k : Int) (a : Option Addr) (n c : Nat) (l : List SeenT) (stamp : Int) (ha : Option Addr) (hm hc : Nat) (cs : List ChT) (w : World) (hg : Ground w) (hs : Ss w a l) (hn : l.length = n) (hok : ∀ s ∈ l, s.p.size ≤ maxLen) (hl : n ≤ maxLen) (hcn : n ≤ c) (hh : Hs w ha cs) (hhm : cs.length = hm) (hm9 : hm ≤ 1000) (hG : Good st p k l) (hA : ¬ (stamp ≤ st ∨ 2147483647 < stamp)) :
    Calls Tryz.prog 7 #[.agg (shA st p k a n c), .int .i64 stamp, .slice ha hm hc] w fun e w' => FoldEnd st p k l stamp cs w w' e := by
  have H0 : Hid (FB w _ (shA st p k a n c) shZ) := FB.start w _ _
  have HC : Hid (∀ w', Below w.heap.size w w' → Calls Tryz.prog 14 #[.agg (shA st p k a n c)] w' fun e w'' => e = .returned (.int .i64 0) ∧ Below w'.heap.size w' w'') := fun w' hb => by
    have := check_any st p k a c l w' (hg.below hb) (hs.below hb) hok (by rw [hn]; exact hl) (by rw [hn]; exact hcn)
    rw [hn, chk_good hG] at this
    exact this
  have HG : Hid (Good st p k l) := hG
  have HA : Hid (¬ (stamp ≤ st ∨ 2147483647 < stamp)) := hA
  have HGr : Hid (Ground w) := hg
  obtain ⟨hI, hsz⟩ := inv_good hG
  have HI : Hid (InvF l) := hI
  have HP : Hid (∀ w', Calls Tryz.prog 17 #[.string p] w' fun e w'' => e = .returned (.string p) ∧ Below w'.heap.size w' w'') := sclone_any p (by have := isP_size' ((cov_self k p).1 hG.2.1).1; omega)
  have HCo : Hid (∀ w', Below w.heap.size w w' → Calls Tryz.prog 18 #[.slice a n c] w' fun e w'' => ∃ g cap, e = .returned (.slice (some ⟨g, 0, none⟩) n cap) ∧ w''.ownsRow w'.heap.size 52 3 (.slice (some ⟨g, 0, none⟩) n cap) n (seCs l) ∧ Below w'.heap.size w' w'') := fun w' hb => copied_any a c n l w' (hs.below hb) hn (by rw [← hn]; have := hI.len; omega) hsz
  have HH : Hid (Hs w ha cs) := hh
  have HM : Hid (cs.length = hm) := hhm
  have HN : Hid (l.length = n) := hn
  have h1 : ¬ stamp ≤ st := fun h => hA (.inl h)
  have h2 : ¬ 2147483647 < stamp := fun h => hA (.inr h)
  clear hg hs hok hl hcn hG hA hI hsz hh hhm hn
  obtain ⟨a0, a1, a2, a3⟩ := cells_4 H0.out.pa
  go_enter Tryz.func7, Tryz.ntmps7
  go_wp2_with fail
  refine (HC.out _ H0.out.low).mono ?_
  rintro e w1 ⟨rfl, hb1⟩
  have H1 : Hid (FB w w1 (shA st p k a n c) shZ) := H0.out.below hb1
  have hA1 : w.heap.size < w1.heap.size := lt_of_blk H1.out.pa
  clear hb1 a0 a1 a2 a3
  obtain ⟨a0, a1, a2, a3⟩ := cells_4 H1.out.pa
  go_wp2_with fail
  go_region_held3 (fun w' => w'.cell? ⟨w.heap.size, 1, none⟩ = some (.string p) ∧ w'.cell? ⟨w.heap.size, 2, none⟩ = some (.int .i64 k) ∧ w'.cell? ⟨w.heap.size, 3, none⟩ = some (.slice a n c)) (first | exact ⟨a1, a2, a3⟩ | go_keep | exact ⟨cellO_1 (cellO_1 (cellO_1 (cellO_1 a1 (by omega)) (by omega)) (by omega)) (by omega), cellO_1 (cellO_1 (cellO_1 (cellO_1 a2 (by omega)) (by omega)) (by omega)) (by omega), cellO_1 (cellO_1 (cellO_1 (cellO_1 a3 (by omega)) (by omega)) (by omega)) (by omega)⟩)
    (first
    | (go_at_call 18; refine (HCo.out _ H2.out.low).mono ?_; rintro e w3 ⟨g, cap, rfl, ho3, hb3⟩
       have H3 : Hid (FB w w3 (shA st p k a n c) shZ) := H2.out.below hb3
       have HO3 : Hid (w3.ownsRow w1.heap.size 52 3 (.slice (some ⟨g, 0, none⟩) n cap) n (seCs l)) := ownsLowG ho3 HL2.out.size
       have HL3 : Hid (Below w1.heap.size w1 w3) := trans2 HL2.out hb3
       have hA3 := HL3.out.size
       try (have HZ3 : Hid _ := kept_block hb3 HZ2.out
            obtain ⟨z0, z1, z2, z3⟩ := cells_4 HZ3.out
            have f4 := free_4 HZ3.out)
       clear hb3 ho3 a0 a1 a2 a3
       obtain ⟨a0, a1, a2, a3⟩ := cells_4 H3.out.pa)
    | (go_at_call 18; refine (HCo.out _ (H2.out.low.alloc H2.out.low.size _)).mono ?_; rintro e w3 ⟨g, cap, rfl, ho3, hb3⟩
       have HLa : Hid (Below w1.heap.size w1 (w2.alloc (.cells #[.int .i64 0, .string ⟨#[]⟩, .int .i64 0, .slice none 0 0] 24))) := HL2.out.alloc HL2.out.size _
       have H3 : Hid (FB w w3 (shA st p k a n c) shZ) := (H2.out.below ((Below.refl _ _).alloc (Nat.le_refl _) _)).below hb3
       have HO3 : Hid (w3.ownsRow w1.heap.size 52 3 (.slice (some ⟨g, 0, none⟩) n cap) n (seCs l)) := ownsLowG ho3 HLa.out.size
       have HL3 : Hid (Below w1.heap.size w1 w3) := trans2 HLa.out hb3
       have hA3 := HL3.out.size
       have HZ3 : Hid (w3.heap[w2.heap.size]? = some (.cells #[.int .i64 0, .string ⟨#[]⟩, .int .i64 0, .slice none 0 0] 24 (0, 0))) := kept_block hb3 (heap_alloc_new _ _)
       obtain ⟨z0, z1, z2, z3⟩ := cells_4 HZ3.out
       have f4 := free_4 HZ3.out
       clear hb3 ho3 a0 a1 a2 a3
       obtain ⟨a0, a1, a2, a3⟩ := cells_4 H3.out.pa)
    | (go_at_call 17; refine (HP.out _).mono ?_; rintro e w2 ⟨rfl, hb2⟩
       have H2 : Hid (FB w w2 (shA st p k a n c) shZ) := H1.out.below (of_drew hb2)
       have HL2 : Hid (Below w1.heap.size w1 w2) := of_drew hb2
       have hA2 := HL2.out.size
       clear hb2 a0 a1 a2 a3
       obtain ⟨a0, a1, a2, a3⟩ := cells_4 H2.out.pa)
    | (go_at_call 17; refine (HP.out _).mono ?_; rintro e w2 ⟨rfl, hb2⟩
       have HLa : Hid (Below w1.heap.size w1 (w1.alloc (.cells #[.int .i64 0, .string ⟨#[]⟩, .int .i64 0, .slice none 0 0] 24))) := (Below.refl _ _).alloc (Nat.le_refl _) _
       have H2 : Hid (FB w w2 (shA st p k a n c) shZ) := (H1.out.below HLa.out).below (of_drew hb2)
       have HL2 : Hid (Below w1.heap.size w1 w2) := trans2 HLa.out (of_drew hb2)
       have hA2 := HL2.out.size
       have HZ2 : Hid (w2.heap[w1.heap.size]? = some (.cells #[.int .i64 0, .string ⟨#[]⟩, .int .i64 0, .slice none 0 0] 24 (0, 0))) := kept_block (of_drew hb2) (heap_alloc_new _ _)
       clear hb2 a0 a1 a2 a3
       obtain ⟨a0, a1, a2, a3⟩ := cells_4 H2.out.pa)
    | fail)
  all_goals (go_wp2_with fail)
  · go_loopw [36] (fun i wr => ∃ (q : Nat) (a' : Option Addr) (cap' : Nat) (m : List SeenT), i = .int .i64 q ∧ q ≤ hm ∧ Hid (PAt w1 wr w3.heap.size stamp p k a' m.length cap' m) ∧ Hid (foldF k p l (cs.take q) = some m)) (fun i _ => hm - (intOf i).toNat)
    case atStart => exact ⟨0, _, _, l, rfl, Nat.zero_le _, (by show PAt _ _ _ _ _ _ _ _ _ _; rw [HN.out]; exact ⟨HL3.out.alloc HL3.out.size _, hA3, heap_alloc_new _ _, HN.out, World.ownsRow.alloc HO3.out _⟩), (by show foldF k p l (cs.take 0) = some l; rfl)⟩
    case round =>
      obtain ⟨q, a5, cap5, m, rfl, hq, HPT, HF⟩ := hrel
      obtain ⟨mn, hmn⟩ : ∃ mn, m.length = mn := ⟨_, rfl⟩
      have HMN : Hid (m.length = mn) := hmn
      rw [hmn] at HPT
      clear hmn
      have HIm : Hid (InvF m) := inv_fold HI.out HF.out
      by_cases hlt : q < hm
      · have hlt' : (q : Int) < (hm : Int) := by omega
        obtain ⟨x, hx⟩ : ∃ x, cs[q]? = some x := ⟨cs[q]'(by rw [HM.out]; exact hlt), List.getElem?_eq_getElem _⟩
        obtain ⟨b, o, rfl, hb, x0, x1, x2, x3⟩ := ((HH.out.below H1.out.low).below HPT.out.low).at hx
        have HX : Hid (cs[q]? = some x) := hx
        have HPL : Hid _ := play_any w1 (wr.alloc (.cells (chA x) 46)) w3.heap.size stamp p k a5 mn cap5 m x (HGr.out.below H1.out.low) HIm.out (HPT.out.below ((Below.refl _ _).alloc (Nat.le_refl _) _))
        clear hx
        go_wp2_with fail
        refine Calls.mono HPL.out ?_
        rintro e w5 (⟨hs5, rfl, hb5⟩ | ⟨m', hs5, rfl, a6, cap6, hp5⟩)
        · have HNO : Hid (foldF k p l cs = none) := foldF_none (q := q + 1) (by rw [take_snocC HX.out, foldF_snoc, HF.out]; exact hs5)
          have H5 : Hid (FB w w5 (shA st p k a n c) shZ) := H1.out.below hb5
          clear hb5 hs5 x0 x1 x2 x3
          obtain ⟨r0, r1, r2, r3⟩ := cells_4 H5.out.pr
          have f4 := free_4 H5.out.pr
          go_wp2_with fail
          exact bodyPost_ret (results_cell_tmp rfl _ _ (w.heap.size + 1) 24 _ (0, 0) _ _ rfl rfl (fill_4 H5.out.pr) Tryz.underlying24 rfl (by kernel_rfl)) rfl ⟨0, ⟨#[]⟩, 0, none, 0, [], 50, rfl, .inl rfl, foldRes_no HG.out HA.out HNO.out, by simp, fillB_4 H5.out.low (by omega), Nat.le_refl _⟩
        · have HP5 : Hid (PAt w1 w5 w3.heap.size stamp p k a6 m'.length cap6 m') := hp5
          have HF5 : Hid (foldF k p l (cs.take (q + 1)) = some m') := by show _ = _; rw [take_snocC HX.out, foldF_snoc, HF.out]; exact hs5
          clear hp5 hs5 x0 x1 x2 x3
          go_wp2_with fail
          go_roundw
          case rel => exact ⟨q + 1, a6, cap6, m', by go_num, by omega, HP5, HF5⟩
          case measure => simp [intOf]; omega
      · obtain rfl : q = hm := by omega
        have hge : ¬ (q : Int) < (q : Int) := by omega
        have H5 : Hid (FB w wr (shA st p k a n c) shZ) := H1.out.below HPT.out.low
        have HF5 : Hid (foldF k p l cs = some m) := by have := HF.out; rw [← HM.out, List.take_length] at this; exact this
        obtain ⟨r0, r1, r2, r3⟩ := cells_4 H5.out.pr
        have f4 := free_4 H5.out.pr
        obtain ⟨n0, n1, n2, n3⟩ := cells_4 HPT.out.box
        go_wp2_with fail
        refine bodyPost_ret (results_cell_tmp rfl _ _ (w.heap.size + 1) 24 _ (0, 0) _ _ rfl rfl (fill_4 H5.out.pr) Tryz.underlying24 rfl (by kernel_rfl)) rfl ⟨stamp, p, k, a5, cap5, m, 0, by rw [HMN.out]; rfl, ss_kept HPT.out.ss (Nat.le_of_eq (put4_sizeG _ _ _ _ _ _).symm) (fun b o hb => put4_otherG _ _ _ _ _ _ b (fun e => ?_)), foldRes_ok HG.out HA.out HF5.out, ⟨HIm.out.len, fun b o e => Nat.le_trans H1.out.low.size (HPT.out.loL b o e)⟩, fillB_4 H5.out.low (by omega), HPT.out.capL⟩
        subst hb
        rcases HPT.out.row.2 with ⟨h0, _⟩ | ⟨g9, cap9, cur9, hv9, _, hg9, _⟩
        · cases h0
        · cases hv9
          rw [e, H5.out.pr] at hg9
          cases hg9
  · go_loopw [36] (fun i wr => ∃ (q : Nat) (a' : Option Addr) (cap' : Nat) (m : List SeenT), i = .int .i64 q ∧ q ≤ hm ∧ Hid (PAt w1 wr w2.heap.size stamp p k a' m.length cap' m) ∧ Hid (foldF k p l (cs.take q) = some m)) (fun i _ => hm - (intOf i).toNat)
    case atStart => exact ⟨0, _, _, l, rfl, Nat.zero_le _, (by show PAt _ _ _ _ _ _ _ _ _ _; rw [HN.out]; exact PAt.start HL3.out hA2 HZ3.out HN.out HO3.out), (by show foldF k p l (cs.take 0) = some l; rfl)⟩
    case round =>
      obtain ⟨q, a5, cap5, m, rfl, hq, HPT, HF⟩ := hrel
      obtain ⟨mn, hmn⟩ : ∃ mn, m.length = mn := ⟨_, rfl⟩
      have HMN : Hid (m.length = mn) := hmn
      rw [hmn] at HPT
      clear hmn
      have HIm : Hid (InvF m) := inv_fold HI.out HF.out
      by_cases hlt : q < hm
      · have hlt' : (q : Int) < (hm : Int) := by omega
        obtain ⟨x, hx⟩ : ∃ x, cs[q]? = some x := ⟨cs[q]'(by rw [HM.out]; exact hlt), List.getElem?_eq_getElem _⟩
        obtain ⟨b, o, rfl, hb, x0, x1, x2, x3⟩ := ((HH.out.below H1.out.low).below HPT.out.low).at hx
        have HX : Hid (cs[q]? = some x) := hx
        have HPL : Hid _ := play_any w1 (wr.alloc (.cells (chA x) 46)) w2.heap.size stamp p k a5 mn cap5 m x (HGr.out.below H1.out.low) HIm.out (HPT.out.below ((Below.refl _ _).alloc (Nat.le_refl _) _))
        clear hx
        go_wp2_with fail
        refine Calls.mono HPL.out ?_
        rintro e w5 (⟨hs5, rfl, hb5⟩ | ⟨m', hs5, rfl, a6, cap6, hp5⟩)
        · have HNO : Hid (foldF k p l cs = none) := foldF_none (q := q + 1) (by rw [take_snocC HX.out, foldF_snoc, HF.out]; exact hs5)
          have H5 : Hid (FB w w5 (shA st p k a n c) shZ) := H1.out.below hb5
          clear hb5 hs5 x0 x1 x2 x3
          obtain ⟨r0, r1, r2, r3⟩ := cells_4 H5.out.pr
          have f4 := free_4 H5.out.pr
          go_wp2_with fail
          exact bodyPost_ret (results_cell_tmp rfl _ _ (w.heap.size + 1) 24 _ (0, 0) _ _ rfl rfl (fill_4 H5.out.pr) Tryz.underlying24 rfl (by kernel_rfl)) rfl ⟨0, ⟨#[]⟩, 0, none, 0, [], 50, rfl, .inl rfl, foldRes_no HG.out HA.out HNO.out, by simp, fillB_4 H5.out.low (by omega), Nat.le_refl _⟩
        · have HP5 : Hid (PAt w1 w5 w2.heap.size stamp p k a6 m'.length cap6 m') := hp5
          have HF5 : Hid (foldF k p l (cs.take (q + 1)) = some m') := by show _ = _; rw [take_snocC HX.out, foldF_snoc, HF.out]; exact hs5
          clear hp5 hs5 x0 x1 x2 x3
          go_wp2_with fail
          go_roundw
          case rel => exact ⟨q + 1, a6, cap6, m', by go_num, by omega, HP5, HF5⟩
          case measure => simp [intOf]; omega
      · obtain rfl : q = hm := by omega
        have hge : ¬ (q : Int) < (q : Int) := by omega
        have H5 : Hid (FB w wr (shA st p k a n c) shZ) := H1.out.below HPT.out.low
        have HF5 : Hid (foldF k p l cs = some m) := by have := HF.out; rw [← HM.out, List.take_length] at this; exact this
        obtain ⟨r0, r1, r2, r3⟩ := cells_4 H5.out.pr
        have f4 := free_4 H5.out.pr
        obtain ⟨n0, n1, n2, n3⟩ := cells_4 HPT.out.box
        go_wp2_with fail
        refine bodyPost_ret (results_cell_tmp rfl _ _ (w.heap.size + 1) 24 _ (0, 0) _ _ rfl rfl (fill_4 H5.out.pr) Tryz.underlying24 rfl (by kernel_rfl)) rfl ⟨stamp, p, k, a5, cap5, m, 0, by rw [HMN.out]; rfl, ss_kept HPT.out.ss (Nat.le_of_eq (put4_sizeG _ _ _ _ _ _).symm) (fun b o hb => put4_otherG _ _ _ _ _ _ b (fun e => ?_)), foldRes_ok HG.out HA.out HF5.out, ⟨HIm.out.len, fun b o e => Nat.le_trans H1.out.low.size (HPT.out.loL b o e)⟩, fillB_4 H5.out.low (by omega), HPT.out.capL⟩
        subst hb
        rcases HPT.out.row.2 with ⟨h0, _⟩ | ⟨g9, cap9, cur9, hv9, _, hg9, _⟩
        · cases h0
        · cases hv9
          rw [e, H5.out.pr] at hg9
          cases hg9
  · go_loopw [36] (fun i wr => ∃ (q : Nat) (a' : Option Addr) (cap' : Nat) (m : List SeenT), i = .int .i64 q ∧ q ≤ hm ∧ Hid (PAt w1 wr w1.heap.size stamp p k a' m.length cap' m) ∧ Hid (foldF k p l (cs.take q) = some m)) (fun i _ => hm - (intOf i).toNat)
    case atStart => exact ⟨0, _, _, l, rfl, Nat.zero_le _, (by show PAt _ _ _ _ _ _ _ _ _ _; rw [HN.out]; exact PAt.start HL3.out (Nat.le_refl _) HZ3.out HN.out HO3.out), (by show foldF k p l (cs.take 0) = some l; rfl)⟩
    case round =>
      obtain ⟨q, a5, cap5, m, rfl, hq, HPT, HF⟩ := hrel
      obtain ⟨mn, hmn⟩ : ∃ mn, m.length = mn := ⟨_, rfl⟩
      have HMN : Hid (m.length = mn) := hmn
      rw [hmn] at HPT
      clear hmn
      have HIm : Hid (InvF m) := inv_fold HI.out HF.out
      by_cases hlt : q < hm
      · have hlt' : (q : Int) < (hm : Int) := by omega
        obtain ⟨x, hx⟩ : ∃ x, cs[q]? = some x := ⟨cs[q]'(by rw [HM.out]; exact hlt), List.getElem?_eq_getElem _⟩
        obtain ⟨b, o, rfl, hb, x0, x1, x2, x3⟩ := ((HH.out.below H1.out.low).below HPT.out.low).at hx
        have HX : Hid (cs[q]? = some x) := hx
        have HPL : Hid _ := play_any w1 (wr.alloc (.cells (chA x) 46)) w1.heap.size stamp p k a5 mn cap5 m x (HGr.out.below H1.out.low) HIm.out (HPT.out.below ((Below.refl _ _).alloc (Nat.le_refl _) _))
        clear hx
        go_wp2_with fail
        refine Calls.mono HPL.out ?_
        rintro e w5 (⟨hs5, rfl, hb5⟩ | ⟨m', hs5, rfl, a6, cap6, hp5⟩)
        · have HNO : Hid (foldF k p l cs = none) := foldF_none (q := q + 1) (by rw [take_snocC HX.out, foldF_snoc, HF.out]; exact hs5)
          have H5 : Hid (FB w w5 (shA st p k a n c) shZ) := H1.out.below hb5
          clear hb5 hs5 x0 x1 x2 x3
          obtain ⟨r0, r1, r2, r3⟩ := cells_4 H5.out.pr
          have f4 := free_4 H5.out.pr
          go_wp2_with fail
          exact bodyPost_ret (results_cell_tmp rfl _ _ (w.heap.size + 1) 24 _ (0, 0) _ _ rfl rfl (fill_4 H5.out.pr) Tryz.underlying24 rfl (by kernel_rfl)) rfl ⟨0, ⟨#[]⟩, 0, none, 0, [], 50, rfl, .inl rfl, foldRes_no HG.out HA.out HNO.out, by simp, fillB_4 H5.out.low (by omega), Nat.le_refl _⟩
        · have HP5 : Hid (PAt w1 w5 w1.heap.size stamp p k a6 m'.length cap6 m') := hp5
          have HF5 : Hid (foldF k p l (cs.take (q + 1)) = some m') := by show _ = _; rw [take_snocC HX.out, foldF_snoc, HF.out]; exact hs5
          clear hp5 hs5 x0 x1 x2 x3
          go_wp2_with fail
          go_roundw
          case rel => exact ⟨q + 1, a6, cap6, m', by go_num, by omega, HP5, HF5⟩
          case measure => simp [intOf]; omega
      · obtain rfl : q = hm := by omega
        have hge : ¬ (q : Int) < (q : Int) := by omega
        have H5 : Hid (FB w wr (shA st p k a n c) shZ) := H1.out.below HPT.out.low
        have HF5 : Hid (foldF k p l cs = some m) := by have := HF.out; rw [← HM.out, List.take_length] at this; exact this
        obtain ⟨r0, r1, r2, r3⟩ := cells_4 H5.out.pr
        have f4 := free_4 H5.out.pr
        obtain ⟨n0, n1, n2, n3⟩ := cells_4 HPT.out.box
        go_wp2_with fail
        refine bodyPost_ret (results_cell_tmp rfl _ _ (w.heap.size + 1) 24 _ (0, 0) _ _ rfl rfl (fill_4 H5.out.pr) Tryz.underlying24 rfl (by kernel_rfl)) rfl ⟨stamp, p, k, a5, cap5, m, 0, by rw [HMN.out]; rfl, ss_kept HPT.out.ss (Nat.le_of_eq (put4_sizeG _ _ _ _ _ _).symm) (fun b o hb => put4_otherG _ _ _ _ _ _ b (fun e => ?_)), foldRes_ok HG.out HA.out HF5.out, ⟨HIm.out.len, fun b o e => Nat.le_trans H1.out.low.size (HPT.out.loL b o e)⟩, fillB_4 H5.out.low (by omega), HPT.out.capL⟩
        subst hb
        rcases HPT.out.row.2 with ⟨h0, _⟩ | ⟨g9, cap9, cur9, hv9, _, hg9, _⟩
        · cases h0
        · cases hv9
          rw [e, H5.out.pr] at hg9
          cases hg9
end Go.Proofs.YtbamkdohaofgdaaGreatDoor
namespace Go.Proofs.YtbamkdohaofgdaaGreatDoor
open Go.RowKit Classical
set_option linter.unusedVariables false
set_option linter.unusedSimpArgs false

set_option maxHeartbeats 6400000 in
set_option maxRecDepth 100000 in
theorem fold_arg (st : Int) (p : ByteArray) (k : Int) (a : Option Addr) (n c : Nat) (l : List SeenT) (stamp : Int) (ha : Option Addr) (hm hc : Nat) (cs : List ChT) (w : World) (hg : Ground w) (hs : Ss w a l) (hn : l.length = n) (hok : ∀ s ∈ l, s.p.size ≤ maxLen) (hl : n ≤ maxLen) (hcn : n ≤ c) (hG : Good st p k l) (hA : stamp ≤ st ∨ 2147483647 < stamp) :
    Calls Tryz.prog 7 #[.agg (shA st p k a n c), .int .i64 stamp, .slice ha hm hc] w fun e w' => FoldEnd st p k l stamp cs w w' e := by
  have H0 : Hid (FB w _ (shA st p k a n c) shZ) := FB.start w _ _
  have HC : Hid (∀ w', Below w.heap.size w w' → Calls Tryz.prog 14 #[.agg (shA st p k a n c)] w' fun e w'' => e = .returned (.int .i64 0) ∧ Below w'.heap.size w' w'') := fun w' hb => by
    have := check_any st p k a c l w' (hg.below hb) (hs.below hb) hok (by rw [hn]; exact hl) (by rw [hn]; exact hcn)
    rw [hn, chk_good hG] at this
    exact this
  have HR : Hid (FoldRes st p k l stamp cs 1 0 ⟨#[]⟩ 0 []) := foldRes_arg hG hA
  clear hg hs hok hl hcn hG
  obtain ⟨a0, a1, a2, a3⟩ := cells_4 H0.out.pa
  by_cases h1 : stamp ≤ st
  · go_enter Tryz.func7, Tryz.ntmps7
    go_wp2_with fail
    refine (HC.out _ H0.out.low).mono ?_
    rintro e w1 ⟨rfl, hb1⟩
    have H1 : Hid (FB w w1 (shA st p k a n c) shZ) := H0.out.below hb1
    clear hb1 a0 a1 a2 a3
    obtain ⟨a0, a1, a2, a3⟩ := cells_4 H1.out.pa
    obtain ⟨r0, r1, r2, r3⟩ := cells_4 H1.out.pr
    have f4 := free_4 H1.out.pr
    go_wp2_with fail
    exact bodyPost_ret (results_cell_tmp rfl _ _ (w.heap.size + 1) 24 _ (0, 0) _ _ rfl rfl (fill_4 H1.out.pr) Tryz.underlying24 rfl (by kernel_rfl)) rfl ⟨0, ⟨#[]⟩, 0, none, 0, [], 1, rfl, .inl rfl, HR.out, by simp, fillB_4 H1.out.low (by omega), Nat.le_refl _⟩
  · have h2 : 2147483647 < stamp := by rcases hA with h | h; exact absurd h h1; exact h
    go_enter Tryz.func7, Tryz.ntmps7
    go_wp2_with fail
    refine (HC.out _ H0.out.low).mono ?_
    rintro e w1 ⟨rfl, hb1⟩
    have H1 : Hid (FB w w1 (shA st p k a n c) shZ) := H0.out.below hb1
    clear hb1 a0 a1 a2 a3
    obtain ⟨a0, a1, a2, a3⟩ := cells_4 H1.out.pa
    obtain ⟨r0, r1, r2, r3⟩ := cells_4 H1.out.pr
    have f4 := free_4 H1.out.pr
    go_wp2_with fail
    exact bodyPost_ret (results_cell_tmp rfl _ _ (w.heap.size + 1) 24 _ (0, 0) _ _ rfl rfl (fill_4 H1.out.pr) Tryz.underlying24 rfl (by kernel_rfl)) rfl ⟨0, ⟨#[]⟩, 0, none, 0, [], 1, rfl, .inl rfl, HR.out, by simp, fillB_4 H1.out.low (by omega), Nat.le_refl _⟩
end Go.Proofs.YtbamkdohaofgdaaGreatDoor
namespace Go.Proofs.YtbamkdohaofgdaaGreatDoor
open Go.RowKit Classical

theorem fold_any (st : Int) (p : ByteArray) (k : Int) (a : Option Addr) (n c : Nat) (l : List SeenT) (stamp : Int) (ha : Option Addr) (hm hc : Nat) (cs : List ChT) (w : World) (hg : Ground w) (hs : Ss w a l) (hn : l.length = n) (hok : ∀ s ∈ l, s.p.size ≤ maxLen) (hl : n ≤ maxLen) (hcn : n ≤ c) (hh : Hs w ha cs) (hhm : cs.length = hm) (hm9 : hm ≤ 1000) :
    Calls Tryz.prog 7 #[.agg (shA st p k a n c), .int .i64 stamp, .slice ha hm hc] w fun e w' => FoldEnd st p k l stamp cs w w' e := by
  by_cases hG : Good st p k l
  · by_cases hA : stamp ≤ st ∨ 2147483647 < stamp
    · exact fold_arg st p k a n c l stamp ha hm hc cs w hg hs hn hok hl hcn hG hA
    · exact fold_good st p k a n c l stamp ha hm hc cs w hg hs hn hok hl hcn hh hhm hm9 hG hA
  · exact fold_bad st p k a n c l stamp ha hm hc cs w hg hs hn hok hl hcn hG
end Go.Proofs.YtbamkdohaofgdaaGreatDoor
