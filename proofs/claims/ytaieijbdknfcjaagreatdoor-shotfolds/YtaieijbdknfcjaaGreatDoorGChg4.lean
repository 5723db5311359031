/-
  heraldref5: change.
-/
import Derived.Deep.QuietTactic
import Derived.BigQuiet
import Derived.Test.YtaieijbdknfcjaaGreatDoorGChgH
namespace Go.Proofs.YtaieijbdknfcjaaGreatDoor
open Go.RowKit Classical
set_option linter.unusedVariables false
set_option linter.unusedSimpArgs false
set_option maxHeartbeats 6400000 in
set_option maxRecDepth 100000 in
theorem chg_gone_not (st : Int) (p : ByteArray) (k : Int) (sa : Option Addr) (sn sc : Nat) (a : Option Addr) (n cap : Nat) (l : List SeenT) (ck : Int) (cp cd : ByteArray) (cv : Int) (w : World) (hs : Ss w a l) (hn : l.length = n) (hI : InvF l) (hp : isP cp = true) (h2 : covers k p 3 cp = true) (h3 : hasP l cp = false) :
    Calls Tryz.prog 23 #[.agg (shA st p k sa sn sc), .slice a n cap, .agg (chA ⟨3, cp, cd, cv⟩)] w fun e w' => ChgEnd k p l ⟨3, cp, cd, cv⟩ w e w' := by
  have HS : Hid (Ss w a l) := hs
  have HN : Hid (l.length = n) := hn
  have HI : Hid (InvF l) := hI
  have hn64 : n ≤ 64 := by rw [← hn]; exact hI.len
  have H0 : Hid (RC w _ (shA st p k sa sn sc) (chA ⟨3, cp, cd, cv⟩)) := RC.start w _ _
  have h1 : covers 3 pRoot 3 cp = true := by rw [cov_root, hp]; simp [okC]
  have HIS : Hid (∀ w', Calls Tryz.prog 39 #[.string cp] w' fun e w'' => e = .returned (.bool true) ∧ Below w'.heap.size w' w'') := fun w' => by have := refIs_any cp w'; rw [hp] at this; exact this
  have HCV : Hid (∀ w', Calls Tryz.prog 45 #[.int .i64 k, .string p, .int .i64 3, .string cp] w' fun e w'' => e = .returned (.bool true) ∧ Below w'.heap.size w' w'') := fun w' => by have := refCovers_any k 3 p cp w'; rw [h2] at this; exact this
  have HFI : Hid (∀ w', Below w.heap.size w w' → Calls Tryz.prog 43 #[.slice a n cap, .string cp] w' fun e w'' => e = .returned (.int .i64 (-1)) ∧ Below w'.heap.size w' w'') := fun w' hb => by
    have := refFind_pos a cap n l cp w' (hs.below hb) hn (by omega) hI.asc
    rw [h3] at this
    simpa using this
  have HS0 : Hid (stepF k p l ⟨3, cp, cd, cv⟩ = none) := by show _ = _; simp [stepF, h1, h2, h3]
  clear hs hn hI h1
  obtain ⟨c0, c1, c2, c3⟩ := cells_4 H0.out.pc
  obtain ⟨s0, s1, s2, s3⟩ := cells_4 H0.out.pa
  go_enter Tryz.func23, Tryz.ntmps23
  go_wp2_with fail
  refine (HIS.out _).mono ?_
  rintro e w1 ⟨rfl, hb⟩
  have H1 : Hid (RC w w1 (shA st p k sa sn sc) (chA ⟨3, cp, cd, cv⟩)) := H0.out.below hb
  clear hb c0 c1 c2 c3 s0 s1 s2 s3
  obtain ⟨c0, c1, c2, c3⟩ := cells_4 H1.out.pc
  obtain ⟨s0, s1, s2, s3⟩ := cells_4 H1.out.pa
  go_wp2_with fail
  refine (HCV.out _).mono ?_
  rintro e w2 ⟨rfl, hb⟩
  have H2 : Hid (RC w w2 (shA st p k sa sn sc) (chA ⟨3, cp, cd, cv⟩)) := H1.out.below hb
  clear hb c0 c1 c2 c3 s0 s1 s2 s3
  obtain ⟨c0, c1, c2, c3⟩ := cells_4 H2.out.pc
  obtain ⟨s0, s1, s2, s3⟩ := cells_4 H2.out.pa
  go_wp2_with fail
  refine (HFI.out _ H2.out.low).mono ?_
  rintro e w3 ⟨rfl, hb⟩
  have H3 : Hid (RC w w3 (shA st p k sa sn sc) (chA ⟨3, cp, cd, cv⟩)) := H2.out.below hb
  clear hb c0 c1 c2 c3 s0 s1 s2 s3
  obtain ⟨c0, c1, c2, c3⟩ := cells_4 H3.out.pc
  obtain ⟨s0, s1, s2, s3⟩ := cells_4 H3.out.pa
  go_wp2_with fail
  go_ret2
  exact .inl ⟨HS0.out, rfl, H3.out.low⟩
set_option maxHeartbeats 6400000 in
set_option maxRecDepth 100000 in
theorem chg_gone_root (st : Int) (p : ByteArray) (k : Int) (sa : Option Addr) (sn sc : Nat) (a : Option Addr) (n cap : Nat) (l : List SeenT) (ck : Int) (cp cd : ByteArray) (cv : Int) (w : World) (hs : Ss w a l) (hn : l.length = n) (hI : InvF l) (hp : isP cp = true) (h2 : covers k p 3 cp = true) (h3 : hasP l cp = true) (h5 : cp = pRoot) :
    Calls Tryz.prog 23 #[.agg (shA st p k sa sn sc), .slice a n cap, .agg (chA ⟨3, cp, cd, cv⟩)] w fun e w' => ChgEnd k p l ⟨3, cp, cd, cv⟩ w e w' := by
  have HS : Hid (Ss w a l) := hs
  have HN : Hid (l.length = n) := hn
  have HI : Hid (InvF l) := hI
  have hn64 : n ≤ 64 := by rw [← hn]; exact hI.len
  have H0 : Hid (RC w _ (shA st p k sa sn sc) (chA ⟨3, cp, cd, cv⟩)) := RC.start w _ _
  have h1 : covers 3 pRoot 3 cp = true := by rw [cov_root, hp]; simp [okC]
  have HIS : Hid (∀ w', Calls Tryz.prog 39 #[.string cp] w' fun e w'' => e = .returned (.bool true) ∧ Below w'.heap.size w' w'') := fun w' => by have := refIs_any cp w'; rw [hp] at this; exact this
  have HCV : Hid (∀ w', Calls Tryz.prog 45 #[.int .i64 k, .string p, .int .i64 3, .string cp] w' fun e w'' => e = .returned (.bool true) ∧ Below w'.heap.size w' w'') := fun w' => by have := refCovers_any k 3 p cp w'; rw [h2] at this; exact this
  obtain ⟨i, hpi⟩ : ∃ i, pos l cp = i := ⟨_, rfl⟩
  have HPI : Hid (pos l cp = i) := hpi
  have hilt : i < n := by rw [← hpi, ← hn]; exact pos_len hI.asc h3
  have HFI : Hid (∀ w', Below w.heap.size w w' → Calls Tryz.prog 43 #[.slice a n cap, .string cp] w' fun e w'' => e = .returned (.int .i64 ((i : Nat) : Int)) ∧ Below w'.heap.size w' w'') := fun w' hb => by
    have := refFind_pos a cap n l cp w' (hs.below hb) hn (by omega) hI.asc
    rw [h3, hpi] at this
    simpa using this
  have HS0 : Hid (stepF k p l ⟨3, cp, cd, cv⟩ = none) := by
    have hgo : goB l cp = false := by simp [goB, h5]
    show _ = _; simp [stepF, h1, h2, h3, hgo]
  have hi0 : ¬ (i : Int) < 0 := by omega
  have hr : (cp.toList == [47]) = true := by
    have h1' := eqL cp pRoot
    rw [show pRoot.toList = [47] by rw [ByteArray.toList_eq]] at h1'
    rw [h1']
    simp [h5]
  clear h5
  clear hs hn hI h1
  obtain ⟨c0, c1, c2, c3⟩ := cells_4 H0.out.pc
  obtain ⟨s0, s1, s2, s3⟩ := cells_4 H0.out.pa
  go_enter Tryz.func23, Tryz.ntmps23
  go_wp2_with fail
  refine (HIS.out _).mono ?_
  rintro e w1 ⟨rfl, hb⟩
  have H1 : Hid (RC w w1 (shA st p k sa sn sc) (chA ⟨3, cp, cd, cv⟩)) := H0.out.below hb
  clear hb c0 c1 c2 c3 s0 s1 s2 s3
  obtain ⟨c0, c1, c2, c3⟩ := cells_4 H1.out.pc
  obtain ⟨s0, s1, s2, s3⟩ := cells_4 H1.out.pa
  go_wp2_with fail
  refine (HCV.out _).mono ?_
  rintro e w2 ⟨rfl, hb⟩
  have H2 : Hid (RC w w2 (shA st p k sa sn sc) (chA ⟨3, cp, cd, cv⟩)) := H1.out.below hb
  clear hb c0 c1 c2 c3 s0 s1 s2 s3
  obtain ⟨c0, c1, c2, c3⟩ := cells_4 H2.out.pc
  obtain ⟨s0, s1, s2, s3⟩ := cells_4 H2.out.pa
  go_wp2_with fail
  refine (HFI.out _ H2.out.low).mono ?_
  rintro e w3 ⟨rfl, hb⟩
  have H3 : Hid (RC w w3 (shA st p k sa sn sc) (chA ⟨3, cp, cd, cv⟩)) := H2.out.below hb
  clear hb c0 c1 c2 c3 s0 s1 s2 s3
  obtain ⟨c0, c1, c2, c3⟩ := cells_4 H3.out.pc
  obtain ⟨s0, s1, s2, s3⟩ := cells_4 H3.out.pa
  go_wp2_with fail
  go_ret2
  exact .inl ⟨HS0.out, rfl, H3.out.low⟩
set_option maxHeartbeats 6400000 in
set_option maxRecDepth 100000 in
theorem chg_gone (st : Int) (p : ByteArray) (k : Int) (sa : Option Addr) (sn sc : Nat) (a : Option Addr) (n cap : Nat) (l : List SeenT) (ck : Int) (cp cd : ByteArray) (cv : Int) (w : World) (hs : Ss w a l) (hn : l.length = n) (hI : InvF l) (hp : isP cp = true) (h2 : covers k p 3 cp = true) (h3 : hasP l cp = true) (h5 : cp ≠ pRoot) :
    Calls Tryz.prog 23 #[.agg (shA st p k sa sn sc), .slice a n cap, .agg (chA ⟨3, cp, cd, cv⟩)] w fun e w' => ChgEnd k p l ⟨3, cp, cd, cv⟩ w e w' := by
  have HS : Hid (Ss w a l) := hs
  have HN : Hid (l.length = n) := hn
  have HI : Hid (InvF l) := hI
  have hn64 : n ≤ 64 := by rw [← hn]; exact hI.len
  have H0 : Hid (RC w _ (shA st p k sa sn sc) (chA ⟨3, cp, cd, cv⟩)) := RC.start w _ _
  have h1 : covers 3 pRoot 3 cp = true := by rw [cov_root, hp]; simp [okC]
  have HIS : Hid (∀ w', Calls Tryz.prog 39 #[.string cp] w' fun e w'' => e = .returned (.bool true) ∧ Below w'.heap.size w' w'') := fun w' => by have := refIs_any cp w'; rw [hp] at this; exact this
  have HCV : Hid (∀ w', Calls Tryz.prog 45 #[.int .i64 k, .string p, .int .i64 3, .string cp] w' fun e w'' => e = .returned (.bool true) ∧ Below w'.heap.size w' w'') := fun w' => by have := refCovers_any k 3 p cp w'; rw [h2] at this; exact this
  obtain ⟨i, hpi⟩ : ∃ i, pos l cp = i := ⟨_, rfl⟩
  have HPI : Hid (pos l cp = i) := hpi
  have hilt : i < n := by rw [← hpi, ← hn]; exact pos_len hI.asc h3
  have HFI : Hid (∀ w', Below w.heap.size w w' → Calls Tryz.prog 43 #[.slice a n cap, .string cp] w' fun e w'' => e = .returned (.int .i64 ((i : Nat) : Int)) ∧ Below w'.heap.size w' w'') := fun w' hb => by
    have := refFind_pos a cap n l cp w' (hs.below hb) hn (by omega) hI.asc
    rw [h3, hpi] at this
    simpa using this
  have hi0 : ¬ (i : Int) < 0 := by omega
  have hr : (cp.toList == [47]) = false := by
    have h1' := eqL cp pRoot
    rw [show pRoot.toList = [47] by rw [ByteArray.toList_eq]] at h1'
    rw [h1']
    simp [h5]
  have HWO : Hid (∀ w', Below w.heap.size w w' → Calls Tryz.prog 47 #[.slice a n cap, .int .i64 i] w' fun e w'' => ∃ v, e = .returned v ∧ w''.ownsRow w'.heap.size 36 3 v (l.eraseIdx i).length (seCs (l.eraseIdx i)) ∧ Below w'.heap.size w' w'') := fun w' hb => without_any a cap n i l w' (hs.below hb) hn (by omega)
  have HBE : Hid (∀ x w', Calls Tryz.prog 48 #[.string x, .string cp] w' fun e w'' => e = .returned (.bool (belP cp x)) ∧ Below w'.heap.size w' w'') := fun x w' => below_any cp x w'
  have HGO : Hid (goB l cp = !(l.any fun s => belP cp s.p)) := by show _ = _; simp [goB, h5]
  have HST : Hid (∀ b, goB l cp = b → stepF k p l ⟨3, cp, cd, cv⟩ = if b = true then some (l.eraseIdx i) else none) := fun b hb => by
    have hd : delP l cp = l.eraseIdx i := by unfold delP; rw [hpi, erase_eq]
    cases b <;> simp [stepF, h1, h2, h3, hb, hd]
  clear hpi
  clear hs hn hI h1
  obtain ⟨c0, c1, c2, c3⟩ := cells_4 H0.out.pc
  obtain ⟨s0, s1, s2, s3⟩ := cells_4 H0.out.pa
  go_enter Tryz.func23, Tryz.ntmps23
  go_wp2_with fail
  refine (HIS.out _).mono ?_
  rintro e w1 ⟨rfl, hb⟩
  have H1 : Hid (RC w w1 (shA st p k sa sn sc) (chA ⟨3, cp, cd, cv⟩)) := H0.out.below hb
  clear hb c0 c1 c2 c3 s0 s1 s2 s3
  obtain ⟨c0, c1, c2, c3⟩ := cells_4 H1.out.pc
  obtain ⟨s0, s1, s2, s3⟩ := cells_4 H1.out.pa
  go_wp2_with fail
  refine (HCV.out _).mono ?_
  rintro e w2 ⟨rfl, hb⟩
  have H2 : Hid (RC w w2 (shA st p k sa sn sc) (chA ⟨3, cp, cd, cv⟩)) := H1.out.below hb
  clear hb c0 c1 c2 c3 s0 s1 s2 s3
  obtain ⟨c0, c1, c2, c3⟩ := cells_4 H2.out.pc
  obtain ⟨s0, s1, s2, s3⟩ := cells_4 H2.out.pa
  go_wp2_with fail
  refine (HFI.out _ H2.out.low).mono ?_
  rintro e w3 ⟨rfl, hb⟩
  have H3 : Hid (RC w w3 (shA st p k sa sn sc) (chA ⟨3, cp, cd, cv⟩)) := H2.out.below hb
  clear hb c0 c1 c2 c3 s0 s1 s2 s3
  obtain ⟨c0, c1, c2, c3⟩ := cells_4 H3.out.pc
  obtain ⟨s0, s1, s2, s3⟩ := cells_4 H3.out.pa
  go_wp2_with fail
  go_loopw [11] (fun j wr => ∃ q : Nat, j = .int .i64 q ∧ q ≤ n ∧ Hid (∀ (j : Nat) (s : SeenT), j < q → l[j]? = some s → belP cp s.p = false) ∧ Hid (RC w wr (shA st p k sa sn sc) (chA ⟨3, cp, cd, cv⟩))) (fun j _ => n - (intOf j).toNat)
  case atStart => exact ⟨0, rfl, Nat.zero_le _, (fun j x h => absurd h (Nat.not_lt_zero _)), H3⟩
  case round =>
    obtain ⟨q, rfl, hq, HQ, HR⟩ := hrel
    clear c0 c1 c2 c3 s0 s1 s2 s3
    obtain ⟨c0, c1, c2, c3⟩ := cells_4 HR.out.pc
    by_cases hlt : q < n
    · have hlt' : (q : Int) < (n : Int) := by omega
      obtain ⟨y, hy⟩ : ∃ y, l[q]? = some y := ⟨l[q]'(by rw [HN.out]; exact hlt), List.getElem?_eq_getElem _⟩
      obtain ⟨b, o, rfl, hb, x0, x1, x2⟩ := (HS.out.below HR.out.low).at hy
      have HY : Hid (l[q]? = some y) := hy
      clear hy
      obtain ⟨bb, hbb⟩ : ∃ bb, belP cp y.p = bb := ⟨_, rfl⟩
      have HBB : Hid (belP cp y.p = bb) := hbb
      have HBy : Hid (∀ w', Calls Tryz.prog 48 #[.string y.p, .string cp] w' fun e w'' => e = .returned (.bool bb) ∧ Below w'.heap.size w' w'') := fun w' => by have := HBE.out y.p w'; rw [hbb] at this; exact this
      clear hbb
      cases bb with
      | true =>
        have HS0 : Hid (stepF k p l ⟨3, cp, cd, cv⟩ = none) := by
          have : (l.any fun s => belP cp s.p) = true := List.any_eq_true.2 ⟨y, List.mem_of_getElem? HY.out, HBB.out⟩
          exact HST.out false (by rw [HGO.out, this]; rfl)
        go_wp2_with fail
        go_region_held3 (fun w' => w'.cell? ⟨b, o + q * 3, none⟩ = some (.string y.p) ∧ w'.cell? ⟨w.heap.size + 1, 1, none⟩ = some (.string cp)) (first | exact ⟨x0, c1⟩ | go_keep)
          (first
          | (go_at_call 48; refine (HBy.out _).mono ?_; rintro e w6 ⟨rfl, hb6⟩
             have H6 : Hid (RC w w6 (shA st p k sa sn sc) (chA ⟨3, cp, cd, cv⟩)) := HR.out.below (of_drew hb6)
             have X6 : Hid _ := (HS.out.below H6.out.low).at2 HY.out
             clear hb6 x0 x1 x2 c0 c1 c2 c3
             obtain ⟨x0, x1, x2⟩ := X6.out
             obtain ⟨c0, c1, c2, c3⟩ := cells_4 H6.out.pc)
          | fail)
        go_wp2_with fail
        go_ret2
        exact .inl ⟨HS0.out, rfl, H6.out.low⟩
      | false =>
        have HQ1 : Hid (∀ (j : Nat) (s : SeenT), j < q + 1 → l[j]? = some s → belP cp s.p = false) := fun j s hj hs' => by
          rcases Nat.lt_or_ge j q with h | h
          · exact HQ.out j s h hs'
          · obtain rfl : j = q := by omega
            rw [HY.out] at hs'
            cases hs'
            exact HBB.out
        go_wp2_with fail
        go_region_held3 (fun w' => w'.cell? ⟨b, o + q * 3, none⟩ = some (.string y.p) ∧ w'.cell? ⟨w.heap.size + 1, 1, none⟩ = some (.string cp)) (first | exact ⟨x0, c1⟩ | go_keep)
          (first
          | (go_at_call 48; refine (HBy.out _).mono ?_; rintro e w6 ⟨rfl, hb6⟩
             have H6 : Hid (RC w w6 (shA st p k sa sn sc) (chA ⟨3, cp, cd, cv⟩)) := HR.out.below (of_drew hb6)
             have X6 : Hid _ := (HS.out.below H6.out.low).at2 HY.out
             clear hb6 x0 x1 x2 c0 c1 c2 c3
             obtain ⟨x0, x1, x2⟩ := X6.out
             obtain ⟨c0, c1, c2, c3⟩ := cells_4 H6.out.pc)
          | fail)
        go_wp2_with fail
        go_roundw
        case rel => exact ⟨q + 1, by go_num, by omega, HQ1, H6⟩
        case measure => simp [intOf]; omega
    · obtain rfl : q = n := by omega
      have hge : ¬ (q : Int) < (q : Int) := by omega
      have HS0 : Hid (stepF k p l ⟨3, cp, cd, cv⟩ = some (l.eraseIdx i)) := by
        have : (l.any fun s => belP cp s.p) = false := by
          rw [Bool.eq_false_iff]
          intro h
          obtain ⟨s, hs', hb'⟩ := List.any_eq_true.1 h
          obtain ⟨j, hj⟩ := List.getElem?_of_mem hs'
          have := HQ.out j s (by rw [← HN.out]; exact (List.getElem?_eq_some_iff.1 hj).1) hj
          rw [this] at hb'; cases hb'
        exact HST.out true (by rw [HGO.out, this]; rfl)
      go_wp2_with fail
      refine (HWO.out _ HR.out.low).mono ?_
      rintro e w9 ⟨v9, rfl, ho9, hb9⟩
      obtain ⟨a9, cap9, rfl⟩ := owns_formR ho9
      have HO9 : Hid (Ss w9 a9 (l.eraseIdx i)) := ss_of_row ho9
      have HB9 : Hid (Below w.heap.size w w9) := trans2 HR.out.low hb9
      clear ho9 hb9 c0 c1 c2 c3
      go_wp2_with fail
      go_ret2
      exact .inr ⟨_, a9, cap9, HS0.out, rfl, HO9.out, HB9.out⟩
end Go.Proofs.YtaieijbdknfcjaaGreatDoor
