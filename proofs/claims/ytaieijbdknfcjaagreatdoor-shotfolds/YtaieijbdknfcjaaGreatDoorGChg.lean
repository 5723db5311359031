import Derived.Deep.QuietTactic
import Derived.BigQuiet
import Derived.Test.YtaieijbdknfcjaaGreatDoorGChgH
import Derived.Test.YtaieijbdknfcjaaGreatDoorGChg2
import Derived.Test.YtaieijbdknfcjaaGreatDoorGChg4
namespace Go.Proofs.YtaieijbdknfcjaaGreatDoor
open Go.RowKit Classical
set_option linter.unusedVariables false
set_option linter.unusedSimpArgs false
set_option maxHeartbeats 6400000 in
set_option maxRecDepth 100000 in
theorem chg_set_not (st : Int) (p : ByteArray) (k : Int) (sa : Option Addr) (sn sc : Nat) (a : Option Addr) (n cap : Nat) (l : List SeenT) (ck : Int) (cp cd : ByteArray) (cv : Int) (w : World) (hs : Ss w a l) (hn : l.length = n) (hI : InvF l) (hp : isP cp = true) (h2 : covers k p 2 cp = true) (h3 : hasP l cp = false) :
    Calls Tryz.prog 23 #[.agg (shA st p k sa sn sc), .slice a n cap, .agg (chA ⟨2, cp, cd, cv⟩)] w fun e w' => ChgEnd k p l ⟨2, cp, cd, cv⟩ w e w' := by
  have HS : Hid (Ss w a l) := hs
  have HN : Hid (l.length = n) := hn
  have HI : Hid (InvF l) := hI
  have hn64 : n ≤ 64 := by rw [← hn]; exact hI.len
  have H0 : Hid (RC w _ (shA st p k sa sn sc) (chA ⟨2, cp, cd, cv⟩)) := RC.start w _ _
  have h1 : covers 3 pRoot 2 cp = true := by rw [cov_root, hp]; simp [okC]
  have HIS : Hid (∀ w', Calls Tryz.prog 39 #[.string cp] w' fun e w'' => e = .returned (.bool true) ∧ Below w'.heap.size w' w'') := fun w' => by have := refIs_any cp w'; rw [hp] at this; exact this
  have HCV : Hid (∀ w', Calls Tryz.prog 45 #[.int .i64 k, .string p, .int .i64 2, .string cp] w' fun e w'' => e = .returned (.bool true) ∧ Below w'.heap.size w' w'') := fun w' => by have := refCovers_any k 2 p cp w'; rw [h2] at this; exact this
  have HFI : Hid (∀ w', Below w.heap.size w w' → Calls Tryz.prog 43 #[.slice a n cap, .string cp] w' fun e w'' => e = .returned (.int .i64 (-1)) ∧ Below w'.heap.size w' w'') := fun w' hb => by
    have := refFind_pos a cap n l cp w' (hs.below hb) hn (by omega) hI.asc
    rw [h3] at this
    simpa using this
  have HS0 : Hid (stepF k p l ⟨2, cp, cd, cv⟩ = none) := by show _ = _; simp [stepF, h1, h2, h3]
  clear hs hn hI h1
  obtain ⟨c0, c1, c2, c3⟩ := cells_4 H0.out.pc
  obtain ⟨s0, s1, s2, s3⟩ := cells_4 H0.out.pa
  go_enter Tryz.func23, Tryz.ntmps23
  go_wp2_with fail
  refine (HIS.out _).mono ?_
  rintro e w1 ⟨rfl, hb⟩
  have H1 : Hid (RC w w1 (shA st p k sa sn sc) (chA ⟨2, cp, cd, cv⟩)) := H0.out.below hb
  clear hb c0 c1 c2 c3 s0 s1 s2 s3
  obtain ⟨c0, c1, c2, c3⟩ := cells_4 H1.out.pc
  obtain ⟨s0, s1, s2, s3⟩ := cells_4 H1.out.pa
  go_wp2_with fail
  refine (HCV.out _).mono ?_
  rintro e w2 ⟨rfl, hb⟩
  have H2 : Hid (RC w w2 (shA st p k sa sn sc) (chA ⟨2, cp, cd, cv⟩)) := H1.out.below hb
  clear hb c0 c1 c2 c3 s0 s1 s2 s3
  obtain ⟨c0, c1, c2, c3⟩ := cells_4 H2.out.pc
  obtain ⟨s0, s1, s2, s3⟩ := cells_4 H2.out.pa
  go_wp2_with fail
  refine (HFI.out _ H2.out.low).mono ?_
  rintro e w3 ⟨rfl, hb⟩
  have H3 : Hid (RC w w3 (shA st p k sa sn sc) (chA ⟨2, cp, cd, cv⟩)) := H2.out.below hb
  clear hb c0 c1 c2 c3 s0 s1 s2 s3
  obtain ⟨c0, c1, c2, c3⟩ := cells_4 H3.out.pc
  obtain ⟨s0, s1, s2, s3⟩ := cells_4 H3.out.pa
  go_wp2_with fail
  go_ret2
  exact .inl ⟨HS0.out, rfl, H3.out.low⟩
set_option maxHeartbeats 6400000 in
set_option maxRecDepth 100000 in
theorem chg_set_bad (st : Int) (p : ByteArray) (k : Int) (sa : Option Addr) (sn sc : Nat) (a : Option Addr) (n cap : Nat) (l : List SeenT) (ck : Int) (cp cd : ByteArray) (cv : Int) (w : World) (hs : Ss w a l) (hn : l.length = n) (hI : InvF l) (hp : isP cp = true) (h2 : covers k p 2 cp = true) (h3 : hasP l cp = true) (h6 : fitB cd cv = false) :
    Calls Tryz.prog 23 #[.agg (shA st p k sa sn sc), .slice a n cap, .agg (chA ⟨2, cp, cd, cv⟩)] w fun e w' => ChgEnd k p l ⟨2, cp, cd, cv⟩ w e w' := by
  have HS : Hid (Ss w a l) := hs
  have HN : Hid (l.length = n) := hn
  have HI : Hid (InvF l) := hI
  have hn64 : n ≤ 64 := by rw [← hn]; exact hI.len
  have H0 : Hid (RC w _ (shA st p k sa sn sc) (chA ⟨2, cp, cd, cv⟩)) := RC.start w _ _
  have h1 : covers 3 pRoot 2 cp = true := by rw [cov_root, hp]; simp [okC]
  have HIS : Hid (∀ w', Calls Tryz.prog 39 #[.string cp] w' fun e w'' => e = .returned (.bool true) ∧ Below w'.heap.size w' w'') := fun w' => by have := refIs_any cp w'; rw [hp] at this; exact this
  have HCV : Hid (∀ w', Calls Tryz.prog 45 #[.int .i64 k, .string p, .int .i64 2, .string cp] w' fun e w'' => e = .returned (.bool true) ∧ Below w'.heap.size w' w'') := fun w' => by have := refCovers_any k 2 p cp w'; rw [h2] at this; exact this
  obtain ⟨i, hpi⟩ : ∃ i, pos l cp = i := ⟨_, rfl⟩
  have HPI : Hid (pos l cp = i) := hpi
  have hilt : i < n := by rw [← hpi, ← hn]; exact pos_len hI.asc h3
  have HFI : Hid (∀ w', Below w.heap.size w w' → Calls Tryz.prog 43 #[.slice a n cap, .string cp] w' fun e w'' => e = .returned (.int .i64 ((i : Nat) : Int)) ∧ Below w'.heap.size w' w'') := fun w' hb => by
    have := refFind_pos a cap n l cp w' (hs.below hb) hn (by omega) hI.asc
    rw [h3, hpi] at this
    simpa using this
  have HS0 : Hid (stepF k p l ⟨2, cp, cd, cv⟩ = none) := by show _ = _; simp [stepF, h1, h2, h3, h6]
  have hi0 : ¬ (i : Int) < 0 := by omega
  have HHO : Hid (∀ w', Calls Tryz.prog 41 #[.string cd, .int .i64 cv] w' fun e w'' => e = .returned (.bool false) ∧ Below w'.heap.size w' w'') := fun w' => (holds_any cd cv w').mono (fun e w'' h => by rw [h6] at h; exact ⟨h.1, by rw [h.2]; exact Below.refl _ _⟩)
  clear hs hn hI h1
  obtain ⟨c0, c1, c2, c3⟩ := cells_4 H0.out.pc
  obtain ⟨s0, s1, s2, s3⟩ := cells_4 H0.out.pa
  go_enter Tryz.func23, Tryz.ntmps23
  go_wp2_with fail
  refine (HIS.out _).mono ?_
  rintro e w1 ⟨rfl, hb⟩
  have H1 : Hid (RC w w1 (shA st p k sa sn sc) (chA ⟨2, cp, cd, cv⟩)) := H0.out.below hb
  clear hb c0 c1 c2 c3 s0 s1 s2 s3
  obtain ⟨c0, c1, c2, c3⟩ := cells_4 H1.out.pc
  obtain ⟨s0, s1, s2, s3⟩ := cells_4 H1.out.pa
  go_wp2_with fail
  refine (HCV.out _).mono ?_
  rintro e w2 ⟨rfl, hb⟩
  have H2 : Hid (RC w w2 (shA st p k sa sn sc) (chA ⟨2, cp, cd, cv⟩)) := H1.out.below hb
  clear hb c0 c1 c2 c3 s0 s1 s2 s3
  obtain ⟨c0, c1, c2, c3⟩ := cells_4 H2.out.pc
  obtain ⟨s0, s1, s2, s3⟩ := cells_4 H2.out.pa
  go_wp2_with fail
  refine (HFI.out _ H2.out.low).mono ?_
  rintro e w3 ⟨rfl, hb⟩
  have H3 : Hid (RC w w3 (shA st p k sa sn sc) (chA ⟨2, cp, cd, cv⟩)) := H2.out.below hb
  clear hb c0 c1 c2 c3 s0 s1 s2 s3
  obtain ⟨c0, c1, c2, c3⟩ := cells_4 H3.out.pc
  obtain ⟨s0, s1, s2, s3⟩ := cells_4 H3.out.pa
  go_wp2_with fail
  refine (HHO.out _).mono ?_
  rintro e w4 ⟨rfl, hb⟩
  have H4 : Hid (RC w w4 (shA st p k sa sn sc) (chA ⟨2, cp, cd, cv⟩)) := H3.out.below hb
  clear hb c0 c1 c2 c3 s0 s1 s2 s3
  obtain ⟨c0, c1, c2, c3⟩ := cells_4 H4.out.pc
  obtain ⟨s0, s1, s2, s3⟩ := cells_4 H4.out.pa
  go_wp2_with fail
  go_ret2
  exact .inl ⟨HS0.out, rfl, H4.out.low⟩
set_option maxHeartbeats 6400000 in
set_option maxRecDepth 100000 in
theorem chg_set (st : Int) (p : ByteArray) (k : Int) (sa : Option Addr) (sn sc : Nat) (a : Option Addr) (n cap : Nat) (l : List SeenT) (ck : Int) (cp cd : ByteArray) (cv : Int) (w : World) (hs : Ss w a l) (hn : l.length = n) (hI : InvF l) (hp : isP cp = true) (h2 : covers k p 2 cp = true) (h3 : hasP l cp = true) (h6 : fitB cd cv = true) :
    Calls Tryz.prog 23 #[.agg (shA st p k sa sn sc), .slice a n cap, .agg (chA ⟨2, cp, cd, cv⟩)] w fun e w' => ChgEnd k p l ⟨2, cp, cd, cv⟩ w e w' := by
  have HS : Hid (Ss w a l) := hs
  have HN : Hid (l.length = n) := hn
  have HI : Hid (InvF l) := hI
  have hn64 : n ≤ 64 := by rw [← hn]; exact hI.len
  have H0 : Hid (RC w _ (shA st p k sa sn sc) (chA ⟨2, cp, cd, cv⟩)) := RC.start w _ _
  have h1 : covers 3 pRoot 2 cp = true := by rw [cov_root, hp]; simp [okC]
  have HIS : Hid (∀ w', Calls Tryz.prog 39 #[.string cp] w' fun e w'' => e = .returned (.bool true) ∧ Below w'.heap.size w' w'') := fun w' => by have := refIs_any cp w'; rw [hp] at this; exact this
  have HCV : Hid (∀ w', Calls Tryz.prog 45 #[.int .i64 k, .string p, .int .i64 2, .string cp] w' fun e w'' => e = .returned (.bool true) ∧ Below w'.heap.size w' w'') := fun w' => by have := refCovers_any k 2 p cp w'; rw [h2] at this; exact this
  obtain ⟨i, hpi⟩ : ∃ i, pos l cp = i := ⟨_, rfl⟩
  have HPI : Hid (pos l cp = i) := hpi
  have hilt : i < n := by rw [← hpi, ← hn]; exact pos_len hI.asc h3
  have HFI : Hid (∀ w', Below w.heap.size w w' → Calls Tryz.prog 43 #[.slice a n cap, .string cp] w' fun e w'' => e = .returned (.int .i64 ((i : Nat) : Int)) ∧ Below w'.heap.size w' w'') := fun w' hb => by
    have := refFind_pos a cap n l cp w' (hs.below hb) hn (by omega) hI.asc
    rw [h3, hpi] at this
    simpa using this
  have hse : seeB k ⟨2, cp, cd, cv⟩ = ⟨cp, cd, cv⟩ := by unfold seeB; rw [if_neg (cov_set h2)]
  have HS0 : Hid (stepF k p l ⟨2, cp, cd, cv⟩ = some (setP l ⟨cp, cd, cv⟩)) := by show _ = _; simp [stepF, h1, h2, h3, h6, hse]
  have hi0 : ¬ (i : Int) < 0 := by omega
  have HHO : Hid (∀ w', Calls Tryz.prog 41 #[.string cd, .int .i64 cv] w' fun e w'' => e = .returned (.bool true) ∧ Below w'.heap.size w' w'') := fun w' => (holds_any cd cv w').mono (fun e w'' h => by rw [h6] at h; exact ⟨h.1, by rw [h.2]; exact Below.refl _ _⟩)
  have HWO : Hid (∀ w', Below w.heap.size w w' → Calls Tryz.prog 47 #[.slice a n cap, .int .i64 i] w' fun e w'' => ∃ v, e = .returned v ∧ w''.ownsRow w'.heap.size 36 3 v (l.eraseIdx i).length (seCs (l.eraseIdx i)) ∧ Below w'.heap.size w' w'') := fun w' hb => without_any a cap n i l w' (hs.below hb) hn (by omega)
  have HPU : Hid (∀ a' n' cap' w', (l.eraseIdx i).length = n' → Ss w' a' (l.eraseIdx i) → Calls Tryz.prog 46 #[.slice a' n' cap', .agg (seC ⟨cp, cd, cv⟩)] w' fun e w'' => ∃ v, e = .returned v ∧ w''.ownsRow w'.heap.size 36 3 v (setP l ⟨cp, cd, cv⟩).length (seCs (setP l ⟨cp, cd, cv⟩)) ∧ Below w'.heap.size w' w'') := fun a' n' cap' w' hn' hs' => by
    have hle := List.length_eraseIdx_le l i
    have := put_any a' cap' n' (l.eraseIdx i) ⟨cp, cd, cv⟩ w' hs' hn' (by omega) (fun s hs' => by have := isP_sizeR (hI.isp s (List.mem_of_mem_eraseIdx hs')); unfold maxLen; omega) (by have := isP_sizeR hp; show cp.size ≤ _; unfold maxLen; omega) (erase_asc hI.asc i) (by rw [← hpi]; exact erase_no hI.asc h3)
    have e : insP (l.eraseIdx i) ⟨cp, cd, cv⟩ = setP l ⟨cp, cd, cv⟩ := by rw [← hpi]; exact set_erase (x := ⟨cp, cd, cv⟩) hI.asc h3
    rw [e] at this
    exact this
  clear hpi
  clear hs hn hI h1
  obtain ⟨c0, c1, c2, c3⟩ := cells_4 H0.out.pc
  obtain ⟨s0, s1, s2, s3⟩ := cells_4 H0.out.pa
  go_enter Tryz.func23, Tryz.ntmps23
  go_wp2_with fail
  refine (HIS.out _).mono ?_
  rintro e w1 ⟨rfl, hb⟩
  have H1 : Hid (RC w w1 (shA st p k sa sn sc) (chA ⟨2, cp, cd, cv⟩)) := H0.out.below hb
  clear hb c0 c1 c2 c3 s0 s1 s2 s3
  obtain ⟨c0, c1, c2, c3⟩ := cells_4 H1.out.pc
  obtain ⟨s0, s1, s2, s3⟩ := cells_4 H1.out.pa
  go_wp2_with fail
  refine (HCV.out _).mono ?_
  rintro e w2 ⟨rfl, hb⟩
  have H2 : Hid (RC w w2 (shA st p k sa sn sc) (chA ⟨2, cp, cd, cv⟩)) := H1.out.below hb
  clear hb c0 c1 c2 c3 s0 s1 s2 s3
  obtain ⟨c0, c1, c2, c3⟩ := cells_4 H2.out.pc
  obtain ⟨s0, s1, s2, s3⟩ := cells_4 H2.out.pa
  go_wp2_with fail
  refine (HFI.out _ H2.out.low).mono ?_
  rintro e w3 ⟨rfl, hb⟩
  have H3 : Hid (RC w w3 (shA st p k sa sn sc) (chA ⟨2, cp, cd, cv⟩)) := H2.out.below hb
  clear hb c0 c1 c2 c3 s0 s1 s2 s3
  obtain ⟨c0, c1, c2, c3⟩ := cells_4 H3.out.pc
  obtain ⟨s0, s1, s2, s3⟩ := cells_4 H3.out.pa
  go_wp2_with fail
  refine (HHO.out _).mono ?_
  rintro e w4 ⟨rfl, hb⟩
  have H4 : Hid (RC w w4 (shA st p k sa sn sc) (chA ⟨2, cp, cd, cv⟩)) := H3.out.below hb
  clear hb c0 c1 c2 c3 s0 s1 s2 s3
  obtain ⟨c0, c1, c2, c3⟩ := cells_4 H4.out.pc
  obtain ⟨s0, s1, s2, s3⟩ := cells_4 H4.out.pa
  go_wp2_with fail
  refine (HWO.out _ H4.out.low).mono ?_
  rintro e w5 ⟨v5, rfl, ho5, hb5⟩
  obtain ⟨a5, cap5, rfl⟩ := owns_formR ho5
  have H5 : Hid (RC w w5 (shA st p k sa sn sc) (chA ⟨2, cp, cd, cv⟩)) := H4.out.below hb5
  have HO5 : Hid (Ss w5 a5 (l.eraseIdx i)) := ss_of_row ho5
  clear ho5 hb5 c0 c1 c2 c3 s0 s1 s2 s3
  obtain ⟨c0, c1, c2, c3⟩ := cells_4 H5.out.pc
  obtain ⟨s0, s1, s2, s3⟩ := cells_4 H5.out.pa
  go_wp2_with fail
  refine (HPU.out a5 _ cap5 _ rfl HO5.out).mono ?_
  rintro e w9 ⟨v9, rfl, ho9, hb9⟩
  obtain ⟨a9, cap9, rfl⟩ := owns_formR ho9
  have HO9 : Hid (Ss w9 a9 (setP l ⟨cp, cd, cv⟩)) := ss_of_row ho9
  have HB9 : Hid (Below w.heap.size w w9) := trans2 H5.out.low hb9
  clear ho9 hb9 c0 c1 c2 c3 s0 s1 s2 s3
  go_wp2_with fail
  go_ret2
  exact .inr ⟨_, a9, cap9, HS0.out, rfl, HO9.out, HB9.out⟩
end Go.Proofs.YtaieijbdknfcjaaGreatDoor
namespace Go.Proofs.YtaieijbdknfcjaaGreatDoor
open Go.RowKit Classical
set_option linter.unusedVariables false
set_option linter.unusedSimpArgs false
set_option maxHeartbeats 6400000 in
set_option maxRecDepth 100000 in
theorem chg_low (st : Int) (p : ByteArray) (k : Int) (sa : Option Addr) (sn sc : Nat) (a : Option Addr) (n cap : Nat) (l : List SeenT) (ck : Int) (cp cd : ByteArray) (cv : Int) (w : World) (hs : Ss w a l) (hn : l.length = n) (hI : InvF l) (hk : ck < 1) :
    Calls Tryz.prog 23 #[.agg (shA st p k sa sn sc), .slice a n cap, .agg (chA ⟨ck, cp, cd, cv⟩)] w fun e w' => ChgEnd k p l ⟨ck, cp, cd, cv⟩ w e w' := by
  have HS : Hid (Ss w a l) := hs
  have HN : Hid (l.length = n) := hn
  have HI : Hid (InvF l) := hI
  have hn64 : n ≤ 64 := by rw [← hn]; exact hI.len
  have H0 : Hid (RC w _ (shA st p k sa sn sc) (chA ⟨ck, cp, cd, cv⟩)) := RC.start w _ _
  have h1 : covers 3 pRoot ck cp = false := by rw [cov_root]; simp [okC]; omega
  have HS0 : Hid (stepF k p l ⟨ck, cp, cd, cv⟩ = none) := by show _ = _; simp [stepF, h1]
  clear hs hn hI h1
  obtain ⟨c0, c1, c2, c3⟩ := cells_4 H0.out.pc
  obtain ⟨s0, s1, s2, s3⟩ := cells_4 H0.out.pa
  go_enter Tryz.func23, Tryz.ntmps23
  go_wp2_with fail
  go_ret2
  exact .inl ⟨HS0.out, rfl, H0.out.low⟩
set_option maxHeartbeats 6400000 in
set_option maxRecDepth 100000 in
theorem chg_high (st : Int) (p : ByteArray) (k : Int) (sa : Option Addr) (sn sc : Nat) (a : Option Addr) (n cap : Nat) (l : List SeenT) (ck : Int) (cp cd : ByteArray) (cv : Int) (w : World) (hs : Ss w a l) (hn : l.length = n) (hI : InvF l) (hk : 3 < ck) :
    Calls Tryz.prog 23 #[.agg (shA st p k sa sn sc), .slice a n cap, .agg (chA ⟨ck, cp, cd, cv⟩)] w fun e w' => ChgEnd k p l ⟨ck, cp, cd, cv⟩ w e w' := by
  have HS : Hid (Ss w a l) := hs
  have HN : Hid (l.length = n) := hn
  have HI : Hid (InvF l) := hI
  have hn64 : n ≤ 64 := by rw [← hn]; exact hI.len
  have H0 : Hid (RC w _ (shA st p k sa sn sc) (chA ⟨ck, cp, cd, cv⟩)) := RC.start w _ _
  have h1 : covers 3 pRoot ck cp = false := by rw [cov_root]; simp [okC]; omega
  have hk1 : ¬ ck < 1 := by omega
  have HS0 : Hid (stepF k p l ⟨ck, cp, cd, cv⟩ = none) := by show _ = _; simp [stepF, h1]
  clear hs hn hI h1
  obtain ⟨c0, c1, c2, c3⟩ := cells_4 H0.out.pc
  obtain ⟨s0, s1, s2, s3⟩ := cells_4 H0.out.pa
  go_enter Tryz.func23, Tryz.ntmps23
  go_wp2_with fail
  go_ret2
  exact .inl ⟨HS0.out, rfl, H0.out.low⟩
set_option maxHeartbeats 6400000 in
set_option maxRecDepth 100000 in
theorem chg_isnt (st : Int) (p : ByteArray) (k : Int) (sa : Option Addr) (sn sc : Nat) (a : Option Addr) (n cap : Nat) (l : List SeenT) (ck : Int) (cp cd : ByteArray) (cv : Int) (w : World) (hs : Ss w a l) (hn : l.length = n) (hI : InvF l) (hk : 1 ≤ ck) (hk3 : ck ≤ 3) (hp : isP cp = false) :
    Calls Tryz.prog 23 #[.agg (shA st p k sa sn sc), .slice a n cap, .agg (chA ⟨ck, cp, cd, cv⟩)] w fun e w' => ChgEnd k p l ⟨ck, cp, cd, cv⟩ w e w' := by
  have HS : Hid (Ss w a l) := hs
  have HN : Hid (l.length = n) := hn
  have HI : Hid (InvF l) := hI
  have hn64 : n ≤ 64 := by rw [← hn]; exact hI.len
  have H0 : Hid (RC w _ (shA st p k sa sn sc) (chA ⟨ck, cp, cd, cv⟩)) := RC.start w _ _
  have h1 : covers 3 pRoot ck cp = false := by rw [cov_root, hp]; simp
  have hk1 : ¬ ck < 1 := by omega
  have hk2 : ¬ 3 < ck := by omega
  have HIS : Hid (∀ w', Calls Tryz.prog 39 #[.string cp] w' fun e w'' => e = .returned (.bool false) ∧ Below w'.heap.size w' w'') := fun w' => by have := refIs_any cp w'; rw [hp] at this; exact this
  have HS0 : Hid (stepF k p l ⟨ck, cp, cd, cv⟩ = none) := by show _ = _; simp [stepF, h1]
  clear hs hn hI h1
  obtain ⟨c0, c1, c2, c3⟩ := cells_4 H0.out.pc
  obtain ⟨s0, s1, s2, s3⟩ := cells_4 H0.out.pa
  go_enter Tryz.func23, Tryz.ntmps23
  go_wp2_with fail
  refine (HIS.out _).mono ?_
  rintro e w1 ⟨rfl, hb⟩
  have H1 : Hid (RC w w1 (shA st p k sa sn sc) (chA ⟨ck, cp, cd, cv⟩)) := H0.out.below hb
  clear hb c0 c1 c2 c3 s0 s1 s2 s3
  obtain ⟨c0, c1, c2, c3⟩ := cells_4 H1.out.pc
  obtain ⟨s0, s1, s2, s3⟩ := cells_4 H1.out.pa
  go_wp2_with fail
  go_ret2
  exact .inl ⟨HS0.out, rfl, H1.out.low⟩
set_option maxHeartbeats 6400000 in
set_option maxRecDepth 100000 in
theorem chg_other (st : Int) (p : ByteArray) (k : Int) (sa : Option Addr) (sn sc : Nat) (a : Option Addr) (n cap : Nat) (l : List SeenT) (ck : Int) (cp cd : ByteArray) (cv : Int) (w : World) (hs : Ss w a l) (hn : l.length = n) (hI : InvF l) (hk : 1 ≤ ck) (hk3 : ck ≤ 3) (hp : isP cp = true) (h2 : covers k p ck cp = false) :
    Calls Tryz.prog 23 #[.agg (shA st p k sa sn sc), .slice a n cap, .agg (chA ⟨ck, cp, cd, cv⟩)] w fun e w' => ChgEnd k p l ⟨ck, cp, cd, cv⟩ w e w' := by
  have HS : Hid (Ss w a l) := hs
  have HN : Hid (l.length = n) := hn
  have HI : Hid (InvF l) := hI
  have hn64 : n ≤ 64 := by rw [← hn]; exact hI.len
  have H0 : Hid (RC w _ (shA st p k sa sn sc) (chA ⟨ck, cp, cd, cv⟩)) := RC.start w _ _
  have h1 : covers 3 pRoot ck cp = true := by rw [cov_root, hp]; simp [okC]; omega
  have hk1 : ¬ ck < 1 := by omega
  have hk2 : ¬ 3 < ck := by omega
  have HS0 : Hid (stepF k p l ⟨ck, cp, cd, cv⟩ = some l) := by show _ = _; simp [stepF, h1, h2]
  have HIS : Hid (∀ w', Calls Tryz.prog 39 #[.string cp] w' fun e w'' => e = .returned (.bool true) ∧ Below w'.heap.size w' w'') := fun w' => by have := refIs_any cp w'; rw [hp] at this; exact this
  have HCV : Hid (∀ w', Calls Tryz.prog 45 #[.int .i64 k, .string p, .int .i64 ck, .string cp] w' fun e w'' => e = .returned (.bool false) ∧ Below w'.heap.size w' w'') := fun w' => by have := refCovers_any k ck p cp w'; rw [h2] at this; exact this
  clear hs hn hI h1
  obtain ⟨c0, c1, c2, c3⟩ := cells_4 H0.out.pc
  obtain ⟨s0, s1, s2, s3⟩ := cells_4 H0.out.pa
  go_enter Tryz.func23, Tryz.ntmps23
  go_wp2_with fail
  refine (HIS.out _).mono ?_
  rintro e w1 ⟨rfl, hb⟩
  have H1 : Hid (RC w w1 (shA st p k sa sn sc) (chA ⟨ck, cp, cd, cv⟩)) := H0.out.below hb
  clear hb c0 c1 c2 c3 s0 s1 s2 s3
  obtain ⟨c0, c1, c2, c3⟩ := cells_4 H1.out.pc
  obtain ⟨s0, s1, s2, s3⟩ := cells_4 H1.out.pa
  go_wp2_with fail
  refine (HCV.out _).mono ?_
  rintro e w2 ⟨rfl, hb⟩
  have H2 : Hid (RC w w2 (shA st p k sa sn sc) (chA ⟨ck, cp, cd, cv⟩)) := H1.out.below hb
  clear hb c0 c1 c2 c3 s0 s1 s2 s3
  obtain ⟨c0, c1, c2, c3⟩ := cells_4 H2.out.pc
  obtain ⟨s0, s1, s2, s3⟩ := cells_4 H2.out.pa
  go_wp2_with fail
  go_ret2
  exact .inr ⟨l, a, cap, HS0.out, by rw [HN.out]; rfl, HS.out.below H2.out.low, H2.out.low⟩
end Go.Proofs.YtaieijbdknfcjaaGreatDoor
namespace Go.Proofs.YtaieijbdknfcjaaGreatDoor
open Go.RowKit Classical
set_option linter.unusedVariables false
set_option linter.unusedSimpArgs false

theorem refChange_any (st : Int) (p : ByteArray) (k : Int) (sa : Option Addr) (sn sc : Nat) (a : Option Addr) (n cap : Nat) (l : List SeenT) (c : ChT) (w : World) (hs : Ss w a l) (hn : l.length = n) (hI : InvF l) :
    Calls Tryz.prog 23 #[.agg (shA st p k sa sn sc), .slice a n cap, .agg (chA c)] w fun e w' => ChgEnd k p l c w e w' := by
  obtain ⟨ck, cp, cd, cv⟩ := c
  by_cases hk1 : ck < 1
  · exact chg_low st p k sa sn sc a n cap l ck cp cd cv w hs hn hI hk1
  by_cases hk3 : 3 < ck
  · exact chg_high st p k sa sn sc a n cap l ck cp cd cv w hs hn hI hk3
  cases hp : isP cp with
  | false => exact chg_isnt st p k sa sn sc a n cap l ck cp cd cv w hs hn hI (by omega) (by omega) hp
  | true =>
    cases h2 : covers k p ck cp with
    | false => exact chg_other st p k sa sn sc a n cap l ck cp cd cv w hs hn hI (by omega) (by omega) hp h2
    | true =>
      rcases (show ck = 1 ∨ ck = 2 ∨ ck = 3 by omega) with rfl | rfl | rfl
      · cases h3 : hasP l cp with
        | true => exact chg_made_there st p k sa sn sc a n cap l 1 cp cd cv w hs hn hI hp h2 h3
        | false =>
          by_cases h5 : cp = p
          · cases h6 : fitB cd cv with
            | false => exact chg_made_self_bad st p k sa sn sc a n cap l 1 cp cd cv w hs hn hI hp h2 h3 h5 h6
            | true =>
              by_cases h7 : 64 ≤ n
              · exact chg_made_self_full st p k sa sn sc a n cap l 1 cp cd cv w hs hn hI hp h2 h3 h5 h6 h7
              · by_cases h8 : k = 2
                · subst h8
                  exact chg_made_self_2 st p 2 sa sn sc a n cap l 1 cp cd cv w hs hn hI hp h2 h3 h5 h6 (by omega)
                · exact chg_made_self_o st p k sa sn sc a n cap l 1 cp cd cv w hs hn hI hp h2 h3 h5 h6 (by omega) h8
          · cases h4 : hasP l (upP cp) with
            | false => exact chg_made_alone st p k sa sn sc a n cap l 1 cp cd cv w hs hn hI hp h2 h3 h5 h4
            | true =>
              cases h6 : fitB cd cv with
              | false => exact chg_made_up_bad st p k sa sn sc a n cap l 1 cp cd cv w hs hn hI hp h2 h3 h5 h4 h6
              | true =>
                by_cases h7 : 64 ≤ n
                · exact chg_made_up_full st p k sa sn sc a n cap l 1 cp cd cv w hs hn hI hp h2 h3 h5 h4 h6 h7
                · by_cases h8 : k = 2
                  · subst h8
                    exact chg_made_up_2 st p 2 sa sn sc a n cap l 1 cp cd cv w hs hn hI hp h2 h3 h5 h4 h6 (by omega)
                  · exact chg_made_up_o st p k sa sn sc a n cap l 1 cp cd cv w hs hn hI hp h2 h3 h5 h4 h6 (by omega) h8
      · cases h3 : hasP l cp with
        | false => exact chg_set_not st p k sa sn sc a n cap l 2 cp cd cv w hs hn hI hp h2 h3
        | true =>
          cases h6 : fitB cd cv with
          | false => exact chg_set_bad st p k sa sn sc a n cap l 2 cp cd cv w hs hn hI hp h2 h3 h6
          | true => exact chg_set st p k sa sn sc a n cap l 2 cp cd cv w hs hn hI hp h2 h3 h6
      · cases h3 : hasP l cp with
        | false => exact chg_gone_not st p k sa sn sc a n cap l 3 cp cd cv w hs hn hI hp h2 h3
        | true =>
          by_cases h5 : cp = pRoot
          · exact chg_gone_root st p k sa sn sc a n cap l 3 cp cd cv w hs hn hI hp h2 h3 h5
          · exact chg_gone st p k sa sn sc a n cap l 3 cp cd cv w hs hn hI hp h2 h3 h5
end Go.Proofs.YtaieijbdknfcjaaGreatDoor
