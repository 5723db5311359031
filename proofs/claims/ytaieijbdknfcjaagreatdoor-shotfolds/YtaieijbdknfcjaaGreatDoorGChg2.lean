/-
  heraldref5: change.
-/
import Derived.Deep.QuietTactic
import Derived.BigQuiet
import Derived.Test.YtaieijbdknfcjaaGreatDoorGChgH
namespace Go.Proofs.YtaieijbdknfcjaaGreatDoor
open Go.RowKit Classical
set_option linter.unusedVariables false
set_option linter.unusedSimpArgs false
set_option maxHeartbeats 6400000 in
set_option maxRecDepth 100000 in
theorem chg_made_there (st : Int) (p : ByteArray) (k : Int) (sa : Option Addr) (sn sc : Nat) (a : Option Addr) (n cap : Nat) (l : List SeenT) (ck : Int) (cp cd : ByteArray) (cv : Int) (w : World) (hs : Ss w a l) (hn : l.length = n) (hI : InvF l) (hp : isP cp = true) (h2 : covers k p 1 cp = true) (h3 : hasP l cp = true) :
    Calls Tryz.prog 23 #[.agg (shA st p k sa sn sc), .slice a n cap, .agg (chA ⟨1, cp, cd, cv⟩)] w fun e w' => ChgEnd k p l ⟨1, cp, cd, cv⟩ w e w' := by
  have HS : Hid (Ss w a l) := hs
  have HN : Hid (l.length = n) := hn
  have HI : Hid (InvF l) := hI
  have hn64 : n ≤ 64 := by rw [← hn]; exact hI.len
  have H0 : Hid (RC w _ (shA st p k sa sn sc) (chA ⟨1, cp, cd, cv⟩)) := RC.start w _ _
  have h1 : covers 3 pRoot 1 cp = true := by rw [cov_root, hp]; simp [okC]
  have HIS : Hid (∀ w', Calls Tryz.prog 39 #[.string cp] w' fun e w'' => e = .returned (.bool true) ∧ Below w'.heap.size w' w'') := fun w' => by have := refIs_any cp w'; rw [hp] at this; exact this
  have HCV : Hid (∀ w', Calls Tryz.prog 45 #[.int .i64 k, .string p, .int .i64 1, .string cp] w' fun e w'' => e = .returned (.bool true) ∧ Below w'.heap.size w' w'') := fun w' => by have := refCovers_any k 1 p cp w'; rw [h2] at this; exact this
  obtain ⟨i, hpi⟩ : ∃ i, pos l cp = i := ⟨_, rfl⟩
  have HPI : Hid (pos l cp = i) := hpi
  have hilt : i < n := by rw [← hpi, ← hn]; exact pos_len hI.asc h3
  have HFI : Hid (∀ w', Below w.heap.size w w' → Calls Tryz.prog 43 #[.slice a n cap, .string cp] w' fun e w'' => e = .returned (.int .i64 ((i : Nat) : Int)) ∧ Below w'.heap.size w' w'') := fun w' hb => by
    have := refFind_pos a cap n l cp w' (hs.below hb) hn (by omega) hI.asc
    rw [h3, hpi] at this
    simpa using this
  have HS0 : Hid (stepF k p l ⟨1, cp, cd, cv⟩ = none) := by show _ = _; simp [stepF, h1, h2, h3]
  have hi0 : (0 : Int) ≤ (i : Int) := by omega
  clear hs hn hI h1
  obtain ⟨c0, c1, c2, c3⟩ := cells_4 H0.out.pc
  obtain ⟨s0, s1, s2, s3⟩ := cells_4 H0.out.pa
  go_enter Tryz.func23, Tryz.ntmps23
  go_wp2_with fail
  refine (HIS.out _).mono ?_
  rintro e w1 ⟨rfl, hb⟩
  have H1 : Hid (RC w w1 (shA st p k sa sn sc) (chA ⟨1, cp, cd, cv⟩)) := H0.out.below hb
  clear hb c0 c1 c2 c3 s0 s1 s2 s3
  obtain ⟨c0, c1, c2, c3⟩ := cells_4 H1.out.pc
  obtain ⟨s0, s1, s2, s3⟩ := cells_4 H1.out.pa
  go_wp2_with fail
  refine (HCV.out _).mono ?_
  rintro e w2 ⟨rfl, hb⟩
  have H2 : Hid (RC w w2 (shA st p k sa sn sc) (chA ⟨1, cp, cd, cv⟩)) := H1.out.below hb
  clear hb c0 c1 c2 c3 s0 s1 s2 s3
  obtain ⟨c0, c1, c2, c3⟩ := cells_4 H2.out.pc
  obtain ⟨s0, s1, s2, s3⟩ := cells_4 H2.out.pa
  go_wp2_with fail
  refine (HFI.out _ H2.out.low).mono ?_
  rintro e w3 ⟨rfl, hb⟩
  have H3 : Hid (RC w w3 (shA st p k sa sn sc) (chA ⟨1, cp, cd, cv⟩)) := H2.out.below hb
  clear hb c0 c1 c2 c3 s0 s1 s2 s3
  obtain ⟨c0, c1, c2, c3⟩ := cells_4 H3.out.pc
  obtain ⟨s0, s1, s2, s3⟩ := cells_4 H3.out.pa
  go_wp2_with fail
  go_ret2
  exact .inl ⟨HS0.out, rfl, H3.out.low⟩
set_option maxHeartbeats 6400000 in
set_option maxRecDepth 100000 in
theorem chg_made_alone (st : Int) (p : ByteArray) (k : Int) (sa : Option Addr) (sn sc : Nat) (a : Option Addr) (n cap : Nat) (l : List SeenT) (ck : Int) (cp cd : ByteArray) (cv : Int) (w : World) (hs : Ss w a l) (hn : l.length = n) (hI : InvF l) (hp : isP cp = true) (h2 : covers k p 1 cp = true) (h3 : hasP l cp = false) (h5 : cp ≠ p) (h4 : hasP l (upP cp) = false) :
    Calls Tryz.prog 23 #[.agg (shA st p k sa sn sc), .slice a n cap, .agg (chA ⟨1, cp, cd, cv⟩)] w fun e w' => ChgEnd k p l ⟨1, cp, cd, cv⟩ w e w' := by
  have HS : Hid (Ss w a l) := hs
  have HN : Hid (l.length = n) := hn
  have HI : Hid (InvF l) := hI
  have hn64 : n ≤ 64 := by rw [← hn]; exact hI.len
  have H0 : Hid (RC w _ (shA st p k sa sn sc) (chA ⟨1, cp, cd, cv⟩)) := RC.start w _ _
  have h1 : covers 3 pRoot 1 cp = true := by rw [cov_root, hp]; simp [okC]
  have HIS : Hid (∀ w', Calls Tryz.prog 39 #[.string cp] w' fun e w'' => e = .returned (.bool true) ∧ Below w'.heap.size w' w'') := fun w' => by have := refIs_any cp w'; rw [hp] at this; exact this
  have HCV : Hid (∀ w', Calls Tryz.prog 45 #[.int .i64 k, .string p, .int .i64 1, .string cp] w' fun e w'' => e = .returned (.bool true) ∧ Below w'.heap.size w' w'') := fun w' => by have := refCovers_any k 1 p cp w'; rw [h2] at this; exact this
  have HFI : Hid (∀ w', Below w.heap.size w w' → Calls Tryz.prog 43 #[.slice a n cap, .string cp] w' fun e w'' => e = .returned (.int .i64 (-1)) ∧ Below w'.heap.size w' w'') := fun w' hb => by
    have := refFind_pos a cap n l cp w' (hs.below hb) hn (by omega) hI.asc
    rw [h3] at this
    simpa using this
  have HS0 : Hid (stepF k p l ⟨1, cp, cd, cv⟩ = none) := by show _ = _; simp [stepF, h1, h2, h3, mkB, h4, h5]
  have HAB : Hid (∀ w', Calls Tryz.prog 44 #[.string cp] w' fun e w'' => e = .returned (.string (upP cp)) ∧ Below w'.heap.size w' w'') := above_any cp
  have HFU : Hid (∀ w', Below w.heap.size w w' → Calls Tryz.prog 43 #[.slice a n cap, .string (upP cp)] w' fun e w'' => e = .returned (.int .i64 (-1)) ∧ Below w'.heap.size w' w'') := fun w' hb => by
    have := refFind_pos a cap n l (upP cp) w' (hs.below hb) hn (by omega) hI.asc
    rw [h4] at this
    simpa using this
  have hne := eqLn h5
  clear hs hn hI h1
  obtain ⟨c0, c1, c2, c3⟩ := cells_4 H0.out.pc
  obtain ⟨s0, s1, s2, s3⟩ := cells_4 H0.out.pa
  go_enter Tryz.func23, Tryz.ntmps23
  go_wp2_with fail
  refine (HIS.out _).mono ?_
  rintro e w1 ⟨rfl, hb⟩
  have H1 : Hid (RC w w1 (shA st p k sa sn sc) (chA ⟨1, cp, cd, cv⟩)) := H0.out.below hb
  clear hb c0 c1 c2 c3 s0 s1 s2 s3
  obtain ⟨c0, c1, c2, c3⟩ := cells_4 H1.out.pc
  obtain ⟨s0, s1, s2, s3⟩ := cells_4 H1.out.pa
  go_wp2_with fail
  refine (HCV.out _).mono ?_
  rintro e w2 ⟨rfl, hb⟩
  have H2 : Hid (RC w w2 (shA st p k sa sn sc) (chA ⟨1, cp, cd, cv⟩)) := H1.out.below hb
  clear hb c0 c1 c2 c3 s0 s1 s2 s3
  obtain ⟨c0, c1, c2, c3⟩ := cells_4 H2.out.pc
  obtain ⟨s0, s1, s2, s3⟩ := cells_4 H2.out.pa
  go_wp2_with fail
  refine (HFI.out _ H2.out.low).mono ?_
  rintro e w3 ⟨rfl, hb⟩
  have H3 : Hid (RC w w3 (shA st p k sa sn sc) (chA ⟨1, cp, cd, cv⟩)) := H2.out.below hb
  clear hb c0 c1 c2 c3 s0 s1 s2 s3
  obtain ⟨c0, c1, c2, c3⟩ := cells_4 H3.out.pc
  obtain ⟨s0, s1, s2, s3⟩ := cells_4 H3.out.pa
  go_wp2_with fail
  refine (HAB.out _).mono ?_
  rintro e w4 ⟨rfl, hb⟩
  have H4 : Hid (RC w w4 (shA st p k sa sn sc) (chA ⟨1, cp, cd, cv⟩)) := H3.out.below hb
  clear hb c0 c1 c2 c3 s0 s1 s2 s3
  obtain ⟨c0, c1, c2, c3⟩ := cells_4 H4.out.pc
  obtain ⟨s0, s1, s2, s3⟩ := cells_4 H4.out.pa
  go_wp2_with fail
  refine (HFU.out _ H4.out.low).mono ?_
  rintro e w5 ⟨rfl, hb⟩
  have H5 : Hid (RC w w5 (shA st p k sa sn sc) (chA ⟨1, cp, cd, cv⟩)) := H4.out.below hb
  clear hb c0 c1 c2 c3 s0 s1 s2 s3
  obtain ⟨c0, c1, c2, c3⟩ := cells_4 H5.out.pc
  obtain ⟨s0, s1, s2, s3⟩ := cells_4 H5.out.pa
  go_wp2_with fail
  go_ret2
  exact .inl ⟨HS0.out, rfl, H5.out.low⟩
set_option maxHeartbeats 6400000 in
set_option maxRecDepth 100000 in
theorem chg_made_self_bad (st : Int) (p : ByteArray) (k : Int) (sa : Option Addr) (sn sc : Nat) (a : Option Addr) (n cap : Nat) (l : List SeenT) (ck : Int) (cp cd : ByteArray) (cv : Int) (w : World) (hs : Ss w a l) (hn : l.length = n) (hI : InvF l) (hp : isP cp = true) (h2 : covers k p 1 cp = true) (h3 : hasP l cp = false) (h5 : cp = p) (h6 : fitB cd cv = false) :
    Calls Tryz.prog 23 #[.agg (shA st p k sa sn sc), .slice a n cap, .agg (chA ⟨1, cp, cd, cv⟩)] w fun e w' => ChgEnd k p l ⟨1, cp, cd, cv⟩ w e w' := by
  have HS : Hid (Ss w a l) := hs
  have HN : Hid (l.length = n) := hn
  have HI : Hid (InvF l) := hI
  have hn64 : n ≤ 64 := by rw [← hn]; exact hI.len
  have H0 : Hid (RC w _ (shA st p k sa sn sc) (chA ⟨1, cp, cd, cv⟩)) := RC.start w _ _
  have h1 : covers 3 pRoot 1 cp = true := by rw [cov_root, hp]; simp [okC]
  have HIS : Hid (∀ w', Calls Tryz.prog 39 #[.string cp] w' fun e w'' => e = .returned (.bool true) ∧ Below w'.heap.size w' w'') := fun w' => by have := refIs_any cp w'; rw [hp] at this; exact this
  have HCV : Hid (∀ w', Calls Tryz.prog 45 #[.int .i64 k, .string p, .int .i64 1, .string cp] w' fun e w'' => e = .returned (.bool true) ∧ Below w'.heap.size w' w'') := fun w' => by have := refCovers_any k 1 p cp w'; rw [h2] at this; exact this
  have HFI : Hid (∀ w', Below w.heap.size w w' → Calls Tryz.prog 43 #[.slice a n cap, .string cp] w' fun e w'' => e = .returned (.int .i64 (-1)) ∧ Below w'.heap.size w' w'') := fun w' hb => by
    have := refFind_pos a cap n l cp w' (hs.below hb) hn (by omega) hI.asc
    rw [h3] at this
    simpa using this
  have HS0 : Hid (stepF k p l ⟨1, cp, cd, cv⟩ = none) := by show _ = _; simp [stepF, h1, h2, h3, mkB, h6]
  subst h5
  have HHO : Hid (∀ w', Calls Tryz.prog 41 #[.string cd, .int .i64 cv] w' fun e w'' => e = .returned (.bool false) ∧ Below w'.heap.size w' w'') := fun w' => (holds_any cd cv w').mono (fun e w'' h => by rw [h6] at h; exact ⟨h.1, by rw [h.2]; exact Below.refl _ _⟩)
  clear hs hn hI h1
  obtain ⟨c0, c1, c2, c3⟩ := cells_4 H0.out.pc
  obtain ⟨s0, s1, s2, s3⟩ := cells_4 H0.out.pa
  go_enter Tryz.func23, Tryz.ntmps23
  go_wp2_with fail
  refine (HIS.out _).mono ?_
  rintro e w1 ⟨rfl, hb⟩
  have H1 : Hid (RC w w1 (shA st cp k sa sn sc) (chA ⟨1, cp, cd, cv⟩)) := H0.out.below hb
  clear hb c0 c1 c2 c3 s0 s1 s2 s3
  obtain ⟨c0, c1, c2, c3⟩ := cells_4 H1.out.pc
  obtain ⟨s0, s1, s2, s3⟩ := cells_4 H1.out.pa
  go_wp2_with fail
  refine (HCV.out _).mono ?_
  rintro e w2 ⟨rfl, hb⟩
  have H2 : Hid (RC w w2 (shA st cp k sa sn sc) (chA ⟨1, cp, cd, cv⟩)) := H1.out.below hb
  clear hb c0 c1 c2 c3 s0 s1 s2 s3
  obtain ⟨c0, c1, c2, c3⟩ := cells_4 H2.out.pc
  obtain ⟨s0, s1, s2, s3⟩ := cells_4 H2.out.pa
  go_wp2_with fail
  refine (HFI.out _ H2.out.low).mono ?_
  rintro e w3 ⟨rfl, hb⟩
  have H3 : Hid (RC w w3 (shA st cp k sa sn sc) (chA ⟨1, cp, cd, cv⟩)) := H2.out.below hb
  clear hb c0 c1 c2 c3 s0 s1 s2 s3
  obtain ⟨c0, c1, c2, c3⟩ := cells_4 H3.out.pc
  obtain ⟨s0, s1, s2, s3⟩ := cells_4 H3.out.pa
  go_wp2_with fail
  refine (HHO.out _).mono ?_
  rintro e w4 ⟨rfl, hb⟩
  have H4 : Hid (RC w w4 (shA st cp k sa sn sc) (chA ⟨1, cp, cd, cv⟩)) := H3.out.below hb
  clear hb c0 c1 c2 c3 s0 s1 s2 s3
  obtain ⟨c0, c1, c2, c3⟩ := cells_4 H4.out.pc
  obtain ⟨s0, s1, s2, s3⟩ := cells_4 H4.out.pa
  go_wp2_with fail
  go_ret2
  exact .inl ⟨HS0.out, rfl, H4.out.low⟩
set_option maxHeartbeats 6400000 in
set_option maxRecDepth 100000 in
theorem chg_made_self_full (st : Int) (p : ByteArray) (k : Int) (sa : Option Addr) (sn sc : Nat) (a : Option Addr) (n cap : Nat) (l : List SeenT) (ck : Int) (cp cd : ByteArray) (cv : Int) (w : World) (hs : Ss w a l) (hn : l.length = n) (hI : InvF l) (hp : isP cp = true) (h2 : covers k p 1 cp = true) (h3 : hasP l cp = false) (h5 : cp = p) (h6 : fitB cd cv = true) (h7 : 64 ≤ n) :
    Calls Tryz.prog 23 #[.agg (shA st p k sa sn sc), .slice a n cap, .agg (chA ⟨1, cp, cd, cv⟩)] w fun e w' => ChgEnd k p l ⟨1, cp, cd, cv⟩ w e w' := by
  have HS : Hid (Ss w a l) := hs
  have HN : Hid (l.length = n) := hn
  have HI : Hid (InvF l) := hI
  have hn64 : n ≤ 64 := by rw [← hn]; exact hI.len
  have H0 : Hid (RC w _ (shA st p k sa sn sc) (chA ⟨1, cp, cd, cv⟩)) := RC.start w _ _
  have h1 : covers 3 pRoot 1 cp = true := by rw [cov_root, hp]; simp [okC]
  have HIS : Hid (∀ w', Calls Tryz.prog 39 #[.string cp] w' fun e w'' => e = .returned (.bool true) ∧ Below w'.heap.size w' w'') := fun w' => by have := refIs_any cp w'; rw [hp] at this; exact this
  have HCV : Hid (∀ w', Calls Tryz.prog 45 #[.int .i64 k, .string p, .int .i64 1, .string cp] w' fun e w'' => e = .returned (.bool true) ∧ Below w'.heap.size w' w'') := fun w' => by have := refCovers_any k 1 p cp w'; rw [h2] at this; exact this
  have HFI : Hid (∀ w', Below w.heap.size w w' → Calls Tryz.prog 43 #[.slice a n cap, .string cp] w' fun e w'' => e = .returned (.int .i64 (-1)) ∧ Below w'.heap.size w' w'') := fun w' hb => by
    have := refFind_pos a cap n l cp w' (hs.below hb) hn (by omega) hI.asc
    rw [h3] at this
    simpa using this
  have HS0 : Hid (stepF k p l ⟨1, cp, cd, cv⟩ = none) := by show _ = _; simp [stepF, h1, h2, h3, mkB, h6, hn, h7]
  subst h5
  have HHO : Hid (∀ w', Calls Tryz.prog 41 #[.string cd, .int .i64 cv] w' fun e w'' => e = .returned (.bool true) ∧ Below w'.heap.size w' w'') := fun w' => (holds_any cd cv w').mono (fun e w'' h => by rw [h6] at h; exact ⟨h.1, by rw [h.2]; exact Below.refl _ _⟩)
  have hf : (64 : Int) ≤ (n : Int) := by omega
  clear hs hn hI h1
  obtain ⟨c0, c1, c2, c3⟩ := cells_4 H0.out.pc
  obtain ⟨s0, s1, s2, s3⟩ := cells_4 H0.out.pa
  go_enter Tryz.func23, Tryz.ntmps23
  go_wp2_with fail
  refine (HIS.out _).mono ?_
  rintro e w1 ⟨rfl, hb⟩
  have H1 : Hid (RC w w1 (shA st cp k sa sn sc) (chA ⟨1, cp, cd, cv⟩)) := H0.out.below hb
  clear hb c0 c1 c2 c3 s0 s1 s2 s3
  obtain ⟨c0, c1, c2, c3⟩ := cells_4 H1.out.pc
  obtain ⟨s0, s1, s2, s3⟩ := cells_4 H1.out.pa
  go_wp2_with fail
  refine (HCV.out _).mono ?_
  rintro e w2 ⟨rfl, hb⟩
  have H2 : Hid (RC w w2 (shA st cp k sa sn sc) (chA ⟨1, cp, cd, cv⟩)) := H1.out.below hb
  clear hb c0 c1 c2 c3 s0 s1 s2 s3
  obtain ⟨c0, c1, c2, c3⟩ := cells_4 H2.out.pc
  obtain ⟨s0, s1, s2, s3⟩ := cells_4 H2.out.pa
  go_wp2_with fail
  refine (HFI.out _ H2.out.low).mono ?_
  rintro e w3 ⟨rfl, hb⟩
  have H3 : Hid (RC w w3 (shA st cp k sa sn sc) (chA ⟨1, cp, cd, cv⟩)) := H2.out.below hb
  clear hb c0 c1 c2 c3 s0 s1 s2 s3
  obtain ⟨c0, c1, c2, c3⟩ := cells_4 H3.out.pc
  obtain ⟨s0, s1, s2, s3⟩ := cells_4 H3.out.pa
  go_wp2_with fail
  refine (HHO.out _).mono ?_
  rintro e w4 ⟨rfl, hb⟩
  have H4 : Hid (RC w w4 (shA st cp k sa sn sc) (chA ⟨1, cp, cd, cv⟩)) := H3.out.below hb
  clear hb c0 c1 c2 c3 s0 s1 s2 s3
  obtain ⟨c0, c1, c2, c3⟩ := cells_4 H4.out.pc
  obtain ⟨s0, s1, s2, s3⟩ := cells_4 H4.out.pa
  go_wp2_with fail
  go_ret2
  exact .inl ⟨HS0.out, rfl, H4.out.low⟩
set_option maxHeartbeats 6400000 in
set_option maxRecDepth 100000 in
theorem chg_made_self_2 (st : Int) (p : ByteArray) (k : Int) (sa : Option Addr) (sn sc : Nat) (a : Option Addr) (n cap : Nat) (l : List SeenT) (ck : Int) (cp cd : ByteArray) (cv : Int) (w : World) (hs : Ss w a l) (hn : l.length = n) (hI : InvF l) (hp : isP cp = true) (h2 : covers 2 p 1 cp = true) (h3 : hasP l cp = false) (h5 : cp = p) (h6 : fitB cd cv = true) (h7 : n < 64) :
    Calls Tryz.prog 23 #[.agg (shA st p 2 sa sn sc), .slice a n cap, .agg (chA ⟨1, cp, cd, cv⟩)] w fun e w' => ChgEnd 2 p l ⟨1, cp, cd, cv⟩ w e w' := by
  have HS : Hid (Ss w a l) := hs
  have HN : Hid (l.length = n) := hn
  have HI : Hid (InvF l) := hI
  have hn64 : n ≤ 64 := by rw [← hn]; exact hI.len
  have H0 : Hid (RC w _ (shA st p 2 sa sn sc) (chA ⟨1, cp, cd, cv⟩)) := RC.start w _ _
  have h1 : covers 3 pRoot 1 cp = true := by rw [cov_root, hp]; simp [okC]
  have HIS : Hid (∀ w', Calls Tryz.prog 39 #[.string cp] w' fun e w'' => e = .returned (.bool true) ∧ Below w'.heap.size w' w'') := fun w' => by have := refIs_any cp w'; rw [hp] at this; exact this
  have HCV : Hid (∀ w', Calls Tryz.prog 45 #[.int .i64 2, .string p, .int .i64 1, .string cp] w' fun e w'' => e = .returned (.bool true) ∧ Below w'.heap.size w' w'') := fun w' => by have := refCovers_any 2 1 p cp w'; rw [h2] at this; exact this
  have HFI : Hid (∀ w', Below w.heap.size w w' → Calls Tryz.prog 43 #[.slice a n cap, .string cp] w' fun e w'' => e = .returned (.int .i64 (-1)) ∧ Below w'.heap.size w' w'') := fun w' hb => by
    have := refFind_pos a cap n l cp w' (hs.below hb) hn (by omega) hI.asc
    rw [h3] at this
    simpa using this
  have hse : seeB 2 ⟨1, cp, cd, cv⟩ = ⟨cp, ⟨#[]⟩, 0⟩ := by unfold seeB; simp
  have HS0 : Hid (stepF 2 p l ⟨1, cp, cd, cv⟩ = some (insP l ⟨cp, ⟨#[]⟩, 0⟩)) := by show _ = _; simp [stepF, h1, h2, h3, mkB, h6, hn, h7, hse]; exact fun hne => absurd h5 hne
  subst h5
  have HHO : Hid (∀ w', Calls Tryz.prog 41 #[.string cd, .int .i64 cv] w' fun e w'' => e = .returned (.bool true) ∧ Below w'.heap.size w' w'') := fun w' => (holds_any cd cv w').mono (fun e w'' h => by rw [h6] at h; exact ⟨h.1, by rw [h.2]; exact Below.refl _ _⟩)
  have HPU : Hid (∀ w', Below w.heap.size w w' → Calls Tryz.prog 46 #[.slice a n cap, .agg (seC ⟨cp, ⟨#[]⟩, 0⟩)] w' fun e w'' => ∃ v, e = .returned v ∧ w''.ownsRow w'.heap.size 36 3 v (insP l ⟨cp, ⟨#[]⟩, 0⟩).length (seCs (insP l ⟨cp, ⟨#[]⟩, 0⟩)) ∧ Below w'.heap.size w' w'') := fun w' hb => put_any a cap n l ⟨cp, ⟨#[]⟩, 0⟩ w' (hs.below hb) hn (by omega) (fun s hs' => by have := isP_sizeR (hI.isp s hs'); unfold maxLen; omega) (by have := isP_sizeR hp; show cp.size ≤ _; unfold maxLen; omega) hI.asc h3
  have hf : ¬ (64 : Int) ≤ (n : Int) := by omega
  clear hs hn hI h1
  obtain ⟨c0, c1, c2, c3⟩ := cells_4 H0.out.pc
  obtain ⟨s0, s1, s2, s3⟩ := cells_4 H0.out.pa
  go_enter Tryz.func23, Tryz.ntmps23
  go_wp2_with fail
  refine (HIS.out _).mono ?_
  rintro e w1 ⟨rfl, hb⟩
  have H1 : Hid (RC w w1 (shA st cp 2 sa sn sc) (chA ⟨1, cp, cd, cv⟩)) := H0.out.below hb
  clear hb c0 c1 c2 c3 s0 s1 s2 s3
  obtain ⟨c0, c1, c2, c3⟩ := cells_4 H1.out.pc
  obtain ⟨s0, s1, s2, s3⟩ := cells_4 H1.out.pa
  go_wp2_with fail
  refine (HCV.out _).mono ?_
  rintro e w2 ⟨rfl, hb⟩
  have H2 : Hid (RC w w2 (shA st cp 2 sa sn sc) (chA ⟨1, cp, cd, cv⟩)) := H1.out.below hb
  clear hb c0 c1 c2 c3 s0 s1 s2 s3
  obtain ⟨c0, c1, c2, c3⟩ := cells_4 H2.out.pc
  obtain ⟨s0, s1, s2, s3⟩ := cells_4 H2.out.pa
  go_wp2_with fail
  refine (HFI.out _ H2.out.low).mono ?_
  rintro e w3 ⟨rfl, hb⟩
  have H3 : Hid (RC w w3 (shA st cp 2 sa sn sc) (chA ⟨1, cp, cd, cv⟩)) := H2.out.below hb
  clear hb c0 c1 c2 c3 s0 s1 s2 s3
  obtain ⟨c0, c1, c2, c3⟩ := cells_4 H3.out.pc
  obtain ⟨s0, s1, s2, s3⟩ := cells_4 H3.out.pa
  go_wp2_with fail
  refine (HHO.out _).mono ?_
  rintro e w4 ⟨rfl, hb⟩
  have H4 : Hid (RC w w4 (shA st cp 2 sa sn sc) (chA ⟨1, cp, cd, cv⟩)) := H3.out.below hb
  clear hb c0 c1 c2 c3 s0 s1 s2 s3
  obtain ⟨c0, c1, c2, c3⟩ := cells_4 H4.out.pc
  obtain ⟨s0, s1, s2, s3⟩ := cells_4 H4.out.pa
  have hsA : w.heap.size < w4.heap.size := lt_of_blk H4.out.pa
  have hsC : w.heap.size + 1 < w4.heap.size := lt_of_blk H4.out.pc
  have sA : ∀ ob o, (w4.alloc ob).cell? ⟨w.heap.size, o, none⟩ = w4.cell? ⟨w.heap.size, o, none⟩ := (fun ob o => World.cell?_of_block (Below.heap_alloc w4 ob _ hsA))
  have sC : ∀ ob o, (w4.alloc ob).cell? ⟨w.heap.size + 1, o, none⟩ = w4.cell? ⟨w.heap.size + 1, o, none⟩ := (fun ob o => World.cell?_of_block (Below.heap_alloc w4 ob _ hsC))
  go_wp2_with fail
  refine (HPU.out _ (H4.out.low.alloc H4.out.low.size _)).mono ?_
  rintro e w9 ⟨v9, rfl, ho9, hb9⟩
  obtain ⟨a9, cap9, rfl⟩ := owns_formR ho9
  have HO9 : Hid (Ss w9 a9 (insP l ⟨cp, ⟨#[]⟩, 0⟩)) := ss_of_row ho9
  have HB9 : Hid (Below w.heap.size w w9) := trans2 (H4.out.low.alloc H4.out.low.size _) hb9
  clear ho9 hb9 c0 c1 c2 c3 s0 s1 s2 s3
  go_wp2_with fail
  go_ret2
  exact .inr ⟨_, a9, cap9, HS0.out, rfl, HO9.out, HB9.out⟩
set_option maxHeartbeats 6400000 in
set_option maxRecDepth 100000 in
theorem chg_made_self_o (st : Int) (p : ByteArray) (k : Int) (sa : Option Addr) (sn sc : Nat) (a : Option Addr) (n cap : Nat) (l : List SeenT) (ck : Int) (cp cd : ByteArray) (cv : Int) (w : World) (hs : Ss w a l) (hn : l.length = n) (hI : InvF l) (hp : isP cp = true) (h2 : covers k p 1 cp = true) (h3 : hasP l cp = false) (h5 : cp = p) (h6 : fitB cd cv = true) (h7 : n < 64) (h8 : k ≠ 2) :
    Calls Tryz.prog 23 #[.agg (shA st p k sa sn sc), .slice a n cap, .agg (chA ⟨1, cp, cd, cv⟩)] w fun e w' => ChgEnd k p l ⟨1, cp, cd, cv⟩ w e w' := by
  have HS : Hid (Ss w a l) := hs
  have HN : Hid (l.length = n) := hn
  have HI : Hid (InvF l) := hI
  have hn64 : n ≤ 64 := by rw [← hn]; exact hI.len
  have H0 : Hid (RC w _ (shA st p k sa sn sc) (chA ⟨1, cp, cd, cv⟩)) := RC.start w _ _
  have h1 : covers 3 pRoot 1 cp = true := by rw [cov_root, hp]; simp [okC]
  have HIS : Hid (∀ w', Calls Tryz.prog 39 #[.string cp] w' fun e w'' => e = .returned (.bool true) ∧ Below w'.heap.size w' w'') := fun w' => by have := refIs_any cp w'; rw [hp] at this; exact this
  have HCV : Hid (∀ w', Calls Tryz.prog 45 #[.int .i64 k, .string p, .int .i64 1, .string cp] w' fun e w'' => e = .returned (.bool true) ∧ Below w'.heap.size w' w'') := fun w' => by have := refCovers_any k 1 p cp w'; rw [h2] at this; exact this
  have HFI : Hid (∀ w', Below w.heap.size w w' → Calls Tryz.prog 43 #[.slice a n cap, .string cp] w' fun e w'' => e = .returned (.int .i64 (-1)) ∧ Below w'.heap.size w' w'') := fun w' hb => by
    have := refFind_pos a cap n l cp w' (hs.below hb) hn (by omega) hI.asc
    rw [h3] at this
    simpa using this
  have hse : seeB k ⟨1, cp, cd, cv⟩ = ⟨cp, cd, cv⟩ := by unfold seeB; simp [h8]
  have HS0 : Hid (stepF k p l ⟨1, cp, cd, cv⟩ = some (insP l ⟨cp, cd, cv⟩)) := by show _ = _; simp [stepF, h1, h2, h3, mkB, h6, hn, h7, hse]; exact fun hne => absurd h5 hne
  subst h5
  have HHO : Hid (∀ w', Calls Tryz.prog 41 #[.string cd, .int .i64 cv] w' fun e w'' => e = .returned (.bool true) ∧ Below w'.heap.size w' w'') := fun w' => (holds_any cd cv w').mono (fun e w'' h => by rw [h6] at h; exact ⟨h.1, by rw [h.2]; exact Below.refl _ _⟩)
  have HPU : Hid (∀ w', Below w.heap.size w w' → Calls Tryz.prog 46 #[.slice a n cap, .agg (seC ⟨cp, cd, cv⟩)] w' fun e w'' => ∃ v, e = .returned v ∧ w''.ownsRow w'.heap.size 36 3 v (insP l ⟨cp, cd, cv⟩).length (seCs (insP l ⟨cp, cd, cv⟩)) ∧ Below w'.heap.size w' w'') := fun w' hb => put_any a cap n l ⟨cp, cd, cv⟩ w' (hs.below hb) hn (by omega) (fun s hs' => by have := isP_sizeR (hI.isp s hs'); unfold maxLen; omega) (by have := isP_sizeR hp; show cp.size ≤ _; unfold maxLen; omega) hI.asc h3
  have hf : ¬ (64 : Int) ≤ (n : Int) := by omega
  clear hs hn hI h1
  obtain ⟨c0, c1, c2, c3⟩ := cells_4 H0.out.pc
  obtain ⟨s0, s1, s2, s3⟩ := cells_4 H0.out.pa
  go_enter Tryz.func23, Tryz.ntmps23
  go_wp2_with fail
  refine (HIS.out _).mono ?_
  rintro e w1 ⟨rfl, hb⟩
  have H1 : Hid (RC w w1 (shA st cp k sa sn sc) (chA ⟨1, cp, cd, cv⟩)) := H0.out.below hb
  clear hb c0 c1 c2 c3 s0 s1 s2 s3
  obtain ⟨c0, c1, c2, c3⟩ := cells_4 H1.out.pc
  obtain ⟨s0, s1, s2, s3⟩ := cells_4 H1.out.pa
  go_wp2_with fail
  refine (HCV.out _).mono ?_
  rintro e w2 ⟨rfl, hb⟩
  have H2 : Hid (RC w w2 (shA st cp k sa sn sc) (chA ⟨1, cp, cd, cv⟩)) := H1.out.below hb
  clear hb c0 c1 c2 c3 s0 s1 s2 s3
  obtain ⟨c0, c1, c2, c3⟩ := cells_4 H2.out.pc
  obtain ⟨s0, s1, s2, s3⟩ := cells_4 H2.out.pa
  go_wp2_with fail
  refine (HFI.out _ H2.out.low).mono ?_
  rintro e w3 ⟨rfl, hb⟩
  have H3 : Hid (RC w w3 (shA st cp k sa sn sc) (chA ⟨1, cp, cd, cv⟩)) := H2.out.below hb
  clear hb c0 c1 c2 c3 s0 s1 s2 s3
  obtain ⟨c0, c1, c2, c3⟩ := cells_4 H3.out.pc
  obtain ⟨s0, s1, s2, s3⟩ := cells_4 H3.out.pa
  go_wp2_with fail
  refine (HHO.out _).mono ?_
  rintro e w4 ⟨rfl, hb⟩
  have H4 : Hid (RC w w4 (shA st cp k sa sn sc) (chA ⟨1, cp, cd, cv⟩)) := H3.out.below hb
  clear hb c0 c1 c2 c3 s0 s1 s2 s3
  obtain ⟨c0, c1, c2, c3⟩ := cells_4 H4.out.pc
  obtain ⟨s0, s1, s2, s3⟩ := cells_4 H4.out.pa
  have hsA : w.heap.size < w4.heap.size := lt_of_blk H4.out.pa
  have hsC : w.heap.size + 1 < w4.heap.size := lt_of_blk H4.out.pc
  have sA : ∀ ob o, (w4.alloc ob).cell? ⟨w.heap.size, o, none⟩ = w4.cell? ⟨w.heap.size, o, none⟩ := (fun ob o => World.cell?_of_block (Below.heap_alloc w4 ob _ hsA))
  have sC : ∀ ob o, (w4.alloc ob).cell? ⟨w.heap.size + 1, o, none⟩ = w4.cell? ⟨w.heap.size + 1, o, none⟩ := (fun ob o => World.cell?_of_block (Below.heap_alloc w4 ob _ hsC))
  go_wp2_with fail
  refine (HPU.out _ (H4.out.low.alloc H4.out.low.size _)).mono ?_
  rintro e w9 ⟨v9, rfl, ho9, hb9⟩
  obtain ⟨a9, cap9, rfl⟩ := owns_formR ho9
  have HO9 : Hid (Ss w9 a9 (insP l ⟨cp, cd, cv⟩)) := ss_of_row ho9
  have HB9 : Hid (Below w.heap.size w w9) := trans2 (H4.out.low.alloc H4.out.low.size _) hb9
  clear ho9 hb9 c0 c1 c2 c3 s0 s1 s2 s3
  go_wp2_with fail
  go_ret2
  exact .inr ⟨_, a9, cap9, HS0.out, rfl, HO9.out, HB9.out⟩
set_option maxHeartbeats 6400000 in
set_option maxRecDepth 100000 in
theorem chg_made_up_bad (st : Int) (p : ByteArray) (k : Int) (sa : Option Addr) (sn sc : Nat) (a : Option Addr) (n cap : Nat) (l : List SeenT) (ck : Int) (cp cd : ByteArray) (cv : Int) (w : World) (hs : Ss w a l) (hn : l.length = n) (hI : InvF l) (hp : isP cp = true) (h2 : covers k p 1 cp = true) (h3 : hasP l cp = false) (h5 : cp ≠ p) (h4 : hasP l (upP cp) = true) (h6 : fitB cd cv = false) :
    Calls Tryz.prog 23 #[.agg (shA st p k sa sn sc), .slice a n cap, .agg (chA ⟨1, cp, cd, cv⟩)] w fun e w' => ChgEnd k p l ⟨1, cp, cd, cv⟩ w e w' := by
  have HS : Hid (Ss w a l) := hs
  have HN : Hid (l.length = n) := hn
  have HI : Hid (InvF l) := hI
  have hn64 : n ≤ 64 := by rw [← hn]; exact hI.len
  have H0 : Hid (RC w _ (shA st p k sa sn sc) (chA ⟨1, cp, cd, cv⟩)) := RC.start w _ _
  have h1 : covers 3 pRoot 1 cp = true := by rw [cov_root, hp]; simp [okC]
  have HIS : Hid (∀ w', Calls Tryz.prog 39 #[.string cp] w' fun e w'' => e = .returned (.bool true) ∧ Below w'.heap.size w' w'') := fun w' => by have := refIs_any cp w'; rw [hp] at this; exact this
  have HCV : Hid (∀ w', Calls Tryz.prog 45 #[.int .i64 k, .string p, .int .i64 1, .string cp] w' fun e w'' => e = .returned (.bool true) ∧ Below w'.heap.size w' w'') := fun w' => by have := refCovers_any k 1 p cp w'; rw [h2] at this; exact this
  have HFI : Hid (∀ w', Below w.heap.size w w' → Calls Tryz.prog 43 #[.slice a n cap, .string cp] w' fun e w'' => e = .returned (.int .i64 (-1)) ∧ Below w'.heap.size w' w'') := fun w' hb => by
    have := refFind_pos a cap n l cp w' (hs.below hb) hn (by omega) hI.asc
    rw [h3] at this
    simpa using this
  have HS0 : Hid (stepF k p l ⟨1, cp, cd, cv⟩ = none) := by show _ = _; simp [stepF, h1, h2, h3, mkB, h6, h4]
  have HAB : Hid (∀ w', Calls Tryz.prog 44 #[.string cp] w' fun e w'' => e = .returned (.string (upP cp)) ∧ Below w'.heap.size w' w'') := above_any cp
  have HFU : Hid (∀ w', Below w.heap.size w w' → Calls Tryz.prog 43 #[.slice a n cap, .string (upP cp)] w' fun e w'' => e = .returned (.int .i64 ((pos l (upP cp) : Nat) : Int)) ∧ Below w'.heap.size w' w'') := fun w' hb => by
    have := refFind_pos a cap n l (upP cp) w' (hs.below hb) hn (by omega) hI.asc
    rw [h4] at this
    simpa using this
  have hne := eqLn h5
  have hu0 : ¬ ((pos l (upP cp) : Nat) : Int) < 0 := by omega
  have HHO : Hid (∀ w', Calls Tryz.prog 41 #[.string cd, .int .i64 cv] w' fun e w'' => e = .returned (.bool false) ∧ Below w'.heap.size w' w'') := fun w' => (holds_any cd cv w').mono (fun e w'' h => by rw [h6] at h; exact ⟨h.1, by rw [h.2]; exact Below.refl _ _⟩)
  clear hs hn hI h1
  obtain ⟨c0, c1, c2, c3⟩ := cells_4 H0.out.pc
  obtain ⟨s0, s1, s2, s3⟩ := cells_4 H0.out.pa
  go_enter Tryz.func23, Tryz.ntmps23
  go_wp2_with fail
  refine (HIS.out _).mono ?_
  rintro e w1 ⟨rfl, hb⟩
  have H1 : Hid (RC w w1 (shA st p k sa sn sc) (chA ⟨1, cp, cd, cv⟩)) := H0.out.below hb
  clear hb c0 c1 c2 c3 s0 s1 s2 s3
  obtain ⟨c0, c1, c2, c3⟩ := cells_4 H1.out.pc
  obtain ⟨s0, s1, s2, s3⟩ := cells_4 H1.out.pa
  go_wp2_with fail
  refine (HCV.out _).mono ?_
  rintro e w2 ⟨rfl, hb⟩
  have H2 : Hid (RC w w2 (shA st p k sa sn sc) (chA ⟨1, cp, cd, cv⟩)) := H1.out.below hb
  clear hb c0 c1 c2 c3 s0 s1 s2 s3
  obtain ⟨c0, c1, c2, c3⟩ := cells_4 H2.out.pc
  obtain ⟨s0, s1, s2, s3⟩ := cells_4 H2.out.pa
  go_wp2_with fail
  refine (HFI.out _ H2.out.low).mono ?_
  rintro e w3 ⟨rfl, hb⟩
  have H3 : Hid (RC w w3 (shA st p k sa sn sc) (chA ⟨1, cp, cd, cv⟩)) := H2.out.below hb
  clear hb c0 c1 c2 c3 s0 s1 s2 s3
  obtain ⟨c0, c1, c2, c3⟩ := cells_4 H3.out.pc
  obtain ⟨s0, s1, s2, s3⟩ := cells_4 H3.out.pa
  go_wp2_with fail
  refine (HAB.out _).mono ?_
  rintro e w4 ⟨rfl, hb⟩
  have H4 : Hid (RC w w4 (shA st p k sa sn sc) (chA ⟨1, cp, cd, cv⟩)) := H3.out.below hb
  clear hb c0 c1 c2 c3 s0 s1 s2 s3
  obtain ⟨c0, c1, c2, c3⟩ := cells_4 H4.out.pc
  obtain ⟨s0, s1, s2, s3⟩ := cells_4 H4.out.pa
  go_wp2_with fail
  refine (HFU.out _ H4.out.low).mono ?_
  rintro e w5 ⟨rfl, hb⟩
  have H5 : Hid (RC w w5 (shA st p k sa sn sc) (chA ⟨1, cp, cd, cv⟩)) := H4.out.below hb
  clear hb c0 c1 c2 c3 s0 s1 s2 s3
  obtain ⟨c0, c1, c2, c3⟩ := cells_4 H5.out.pc
  obtain ⟨s0, s1, s2, s3⟩ := cells_4 H5.out.pa
  go_wp2_with fail
  refine (HHO.out _).mono ?_
  rintro e w6 ⟨rfl, hb⟩
  have H6 : Hid (RC w w6 (shA st p k sa sn sc) (chA ⟨1, cp, cd, cv⟩)) := H5.out.below hb
  clear hb c0 c1 c2 c3 s0 s1 s2 s3
  obtain ⟨c0, c1, c2, c3⟩ := cells_4 H6.out.pc
  obtain ⟨s0, s1, s2, s3⟩ := cells_4 H6.out.pa
  go_wp2_with fail
  go_ret2
  exact .inl ⟨HS0.out, rfl, H6.out.low⟩
set_option maxHeartbeats 6400000 in
set_option maxRecDepth 100000 in
theorem chg_made_up_full (st : Int) (p : ByteArray) (k : Int) (sa : Option Addr) (sn sc : Nat) (a : Option Addr) (n cap : Nat) (l : List SeenT) (ck : Int) (cp cd : ByteArray) (cv : Int) (w : World) (hs : Ss w a l) (hn : l.length = n) (hI : InvF l) (hp : isP cp = true) (h2 : covers k p 1 cp = true) (h3 : hasP l cp = false) (h5 : cp ≠ p) (h4 : hasP l (upP cp) = true) (h6 : fitB cd cv = true) (h7 : 64 ≤ n) :
    Calls Tryz.prog 23 #[.agg (shA st p k sa sn sc), .slice a n cap, .agg (chA ⟨1, cp, cd, cv⟩)] w fun e w' => ChgEnd k p l ⟨1, cp, cd, cv⟩ w e w' := by
  have HS : Hid (Ss w a l) := hs
  have HN : Hid (l.length = n) := hn
  have HI : Hid (InvF l) := hI
  have hn64 : n ≤ 64 := by rw [← hn]; exact hI.len
  have H0 : Hid (RC w _ (shA st p k sa sn sc) (chA ⟨1, cp, cd, cv⟩)) := RC.start w _ _
  have h1 : covers 3 pRoot 1 cp = true := by rw [cov_root, hp]; simp [okC]
  have HIS : Hid (∀ w', Calls Tryz.prog 39 #[.string cp] w' fun e w'' => e = .returned (.bool true) ∧ Below w'.heap.size w' w'') := fun w' => by have := refIs_any cp w'; rw [hp] at this; exact this
  have HCV : Hid (∀ w', Calls Tryz.prog 45 #[.int .i64 k, .string p, .int .i64 1, .string cp] w' fun e w'' => e = .returned (.bool true) ∧ Below w'.heap.size w' w'') := fun w' => by have := refCovers_any k 1 p cp w'; rw [h2] at this; exact this
  have HFI : Hid (∀ w', Below w.heap.size w w' → Calls Tryz.prog 43 #[.slice a n cap, .string cp] w' fun e w'' => e = .returned (.int .i64 (-1)) ∧ Below w'.heap.size w' w'') := fun w' hb => by
    have := refFind_pos a cap n l cp w' (hs.below hb) hn (by omega) hI.asc
    rw [h3] at this
    simpa using this
  have HS0 : Hid (stepF k p l ⟨1, cp, cd, cv⟩ = none) := by show _ = _; simp [stepF, h1, h2, h3, mkB, h6, h4, hn, h7]
  have HAB : Hid (∀ w', Calls Tryz.prog 44 #[.string cp] w' fun e w'' => e = .returned (.string (upP cp)) ∧ Below w'.heap.size w' w'') := above_any cp
  have HFU : Hid (∀ w', Below w.heap.size w w' → Calls Tryz.prog 43 #[.slice a n cap, .string (upP cp)] w' fun e w'' => e = .returned (.int .i64 ((pos l (upP cp) : Nat) : Int)) ∧ Below w'.heap.size w' w'') := fun w' hb => by
    have := refFind_pos a cap n l (upP cp) w' (hs.below hb) hn (by omega) hI.asc
    rw [h4] at this
    simpa using this
  have hne := eqLn h5
  have hu0 : ¬ ((pos l (upP cp) : Nat) : Int) < 0 := by omega
  have HHO : Hid (∀ w', Calls Tryz.prog 41 #[.string cd, .int .i64 cv] w' fun e w'' => e = .returned (.bool true) ∧ Below w'.heap.size w' w'') := fun w' => (holds_any cd cv w').mono (fun e w'' h => by rw [h6] at h; exact ⟨h.1, by rw [h.2]; exact Below.refl _ _⟩)
  have hf : (64 : Int) ≤ (n : Int) := by omega
  clear hs hn hI h1
  obtain ⟨c0, c1, c2, c3⟩ := cells_4 H0.out.pc
  obtain ⟨s0, s1, s2, s3⟩ := cells_4 H0.out.pa
  go_enter Tryz.func23, Tryz.ntmps23
  go_wp2_with fail
  refine (HIS.out _).mono ?_
  rintro e w1 ⟨rfl, hb⟩
  have H1 : Hid (RC w w1 (shA st p k sa sn sc) (chA ⟨1, cp, cd, cv⟩)) := H0.out.below hb
  clear hb c0 c1 c2 c3 s0 s1 s2 s3
  obtain ⟨c0, c1, c2, c3⟩ := cells_4 H1.out.pc
  obtain ⟨s0, s1, s2, s3⟩ := cells_4 H1.out.pa
  go_wp2_with fail
  refine (HCV.out _).mono ?_
  rintro e w2 ⟨rfl, hb⟩
  have H2 : Hid (RC w w2 (shA st p k sa sn sc) (chA ⟨1, cp, cd, cv⟩)) := H1.out.below hb
  clear hb c0 c1 c2 c3 s0 s1 s2 s3
  obtain ⟨c0, c1, c2, c3⟩ := cells_4 H2.out.pc
  obtain ⟨s0, s1, s2, s3⟩ := cells_4 H2.out.pa
  go_wp2_with fail
  refine (HFI.out _ H2.out.low).mono ?_
  rintro e w3 ⟨rfl, hb⟩
  have H3 : Hid (RC w w3 (shA st p k sa sn sc) (chA ⟨1, cp, cd, cv⟩)) := H2.out.below hb
  clear hb c0 c1 c2 c3 s0 s1 s2 s3
  obtain ⟨c0, c1, c2, c3⟩ := cells_4 H3.out.pc
  obtain ⟨s0, s1, s2, s3⟩ := cells_4 H3.out.pa
  go_wp2_with fail
  refine (HAB.out _).mono ?_
  rintro e w4 ⟨rfl, hb⟩
  have H4 : Hid (RC w w4 (shA st p k sa sn sc) (chA ⟨1, cp, cd, cv⟩)) := H3.out.below hb
  clear hb c0 c1 c2 c3 s0 s1 s2 s3
  obtain ⟨c0, c1, c2, c3⟩ := cells_4 H4.out.pc
  obtain ⟨s0, s1, s2, s3⟩ := cells_4 H4.out.pa
  go_wp2_with fail
  refine (HFU.out _ H4.out.low).mono ?_
  rintro e w5 ⟨rfl, hb⟩
  have H5 : Hid (RC w w5 (shA st p k sa sn sc) (chA ⟨1, cp, cd, cv⟩)) := H4.out.below hb
  clear hb c0 c1 c2 c3 s0 s1 s2 s3
  obtain ⟨c0, c1, c2, c3⟩ := cells_4 H5.out.pc
  obtain ⟨s0, s1, s2, s3⟩ := cells_4 H5.out.pa
  go_wp2_with fail
  refine (HHO.out _).mono ?_
  rintro e w6 ⟨rfl, hb⟩
  have H6 : Hid (RC w w6 (shA st p k sa sn sc) (chA ⟨1, cp, cd, cv⟩)) := H5.out.below hb
  clear hb c0 c1 c2 c3 s0 s1 s2 s3
  obtain ⟨c0, c1, c2, c3⟩ := cells_4 H6.out.pc
  obtain ⟨s0, s1, s2, s3⟩ := cells_4 H6.out.pa
  go_wp2_with fail
  go_ret2
  exact .inl ⟨HS0.out, rfl, H6.out.low⟩
set_option maxHeartbeats 6400000 in
set_option maxRecDepth 100000 in
theorem chg_made_up_2 (st : Int) (p : ByteArray) (k : Int) (sa : Option Addr) (sn sc : Nat) (a : Option Addr) (n cap : Nat) (l : List SeenT) (ck : Int) (cp cd : ByteArray) (cv : Int) (w : World) (hs : Ss w a l) (hn : l.length = n) (hI : InvF l) (hp : isP cp = true) (h2 : covers 2 p 1 cp = true) (h3 : hasP l cp = false) (h5 : cp ≠ p) (h4 : hasP l (upP cp) = true) (h6 : fitB cd cv = true) (h7 : n < 64) :
    Calls Tryz.prog 23 #[.agg (shA st p 2 sa sn sc), .slice a n cap, .agg (chA ⟨1, cp, cd, cv⟩)] w fun e w' => ChgEnd 2 p l ⟨1, cp, cd, cv⟩ w e w' := by
  have HS : Hid (Ss w a l) := hs
  have HN : Hid (l.length = n) := hn
  have HI : Hid (InvF l) := hI
  have hn64 : n ≤ 64 := by rw [← hn]; exact hI.len
  have H0 : Hid (RC w _ (shA st p 2 sa sn sc) (chA ⟨1, cp, cd, cv⟩)) := RC.start w _ _
  have h1 : covers 3 pRoot 1 cp = true := by rw [cov_root, hp]; simp [okC]
  have HIS : Hid (∀ w', Calls Tryz.prog 39 #[.string cp] w' fun e w'' => e = .returned (.bool true) ∧ Below w'.heap.size w' w'') := fun w' => by have := refIs_any cp w'; rw [hp] at this; exact this
  have HCV : Hid (∀ w', Calls Tryz.prog 45 #[.int .i64 2, .string p, .int .i64 1, .string cp] w' fun e w'' => e = .returned (.bool true) ∧ Below w'.heap.size w' w'') := fun w' => by have := refCovers_any 2 1 p cp w'; rw [h2] at this; exact this
  have HFI : Hid (∀ w', Below w.heap.size w w' → Calls Tryz.prog 43 #[.slice a n cap, .string cp] w' fun e w'' => e = .returned (.int .i64 (-1)) ∧ Below w'.heap.size w' w'') := fun w' hb => by
    have := refFind_pos a cap n l cp w' (hs.below hb) hn (by omega) hI.asc
    rw [h3] at this
    simpa using this
  have hse : seeB 2 ⟨1, cp, cd, cv⟩ = ⟨cp, ⟨#[]⟩, 0⟩ := by unfold seeB; simp
  have HS0 : Hid (stepF 2 p l ⟨1, cp, cd, cv⟩ = some (insP l ⟨cp, ⟨#[]⟩, 0⟩)) := by show _ = _; simp [stepF, h1, h2, h3, mkB, h6, h4, hn, h7, hse]
  have HAB : Hid (∀ w', Calls Tryz.prog 44 #[.string cp] w' fun e w'' => e = .returned (.string (upP cp)) ∧ Below w'.heap.size w' w'') := above_any cp
  have HFU : Hid (∀ w', Below w.heap.size w w' → Calls Tryz.prog 43 #[.slice a n cap, .string (upP cp)] w' fun e w'' => e = .returned (.int .i64 ((pos l (upP cp) : Nat) : Int)) ∧ Below w'.heap.size w' w'') := fun w' hb => by
    have := refFind_pos a cap n l (upP cp) w' (hs.below hb) hn (by omega) hI.asc
    rw [h4] at this
    simpa using this
  have hne := eqLn h5
  have hu0 : ¬ ((pos l (upP cp) : Nat) : Int) < 0 := by omega
  have HHO : Hid (∀ w', Calls Tryz.prog 41 #[.string cd, .int .i64 cv] w' fun e w'' => e = .returned (.bool true) ∧ Below w'.heap.size w' w'') := fun w' => (holds_any cd cv w').mono (fun e w'' h => by rw [h6] at h; exact ⟨h.1, by rw [h.2]; exact Below.refl _ _⟩)
  have HPU : Hid (∀ w', Below w.heap.size w w' → Calls Tryz.prog 46 #[.slice a n cap, .agg (seC ⟨cp, ⟨#[]⟩, 0⟩)] w' fun e w'' => ∃ v, e = .returned v ∧ w''.ownsRow w'.heap.size 36 3 v (insP l ⟨cp, ⟨#[]⟩, 0⟩).length (seCs (insP l ⟨cp, ⟨#[]⟩, 0⟩)) ∧ Below w'.heap.size w' w'') := fun w' hb => put_any a cap n l ⟨cp, ⟨#[]⟩, 0⟩ w' (hs.below hb) hn (by omega) (fun s hs' => by have := isP_sizeR (hI.isp s hs'); unfold maxLen; omega) (by have := isP_sizeR hp; show cp.size ≤ _; unfold maxLen; omega) hI.asc h3
  have hf : ¬ (64 : Int) ≤ (n : Int) := by omega
  clear hs hn hI h1
  obtain ⟨c0, c1, c2, c3⟩ := cells_4 H0.out.pc
  obtain ⟨s0, s1, s2, s3⟩ := cells_4 H0.out.pa
  go_enter Tryz.func23, Tryz.ntmps23
  go_wp2_with fail
  refine (HIS.out _).mono ?_
  rintro e w1 ⟨rfl, hb⟩
  have H1 : Hid (RC w w1 (shA st p 2 sa sn sc) (chA ⟨1, cp, cd, cv⟩)) := H0.out.below hb
  clear hb c0 c1 c2 c3 s0 s1 s2 s3
  obtain ⟨c0, c1, c2, c3⟩ := cells_4 H1.out.pc
  obtain ⟨s0, s1, s2, s3⟩ := cells_4 H1.out.pa
  go_wp2_with fail
  refine (HCV.out _).mono ?_
  rintro e w2 ⟨rfl, hb⟩
  have H2 : Hid (RC w w2 (shA st p 2 sa sn sc) (chA ⟨1, cp, cd, cv⟩)) := H1.out.below hb
  clear hb c0 c1 c2 c3 s0 s1 s2 s3
  obtain ⟨c0, c1, c2, c3⟩ := cells_4 H2.out.pc
  obtain ⟨s0, s1, s2, s3⟩ := cells_4 H2.out.pa
  go_wp2_with fail
  refine (HFI.out _ H2.out.low).mono ?_
  rintro e w3 ⟨rfl, hb⟩
  have H3 : Hid (RC w w3 (shA st p 2 sa sn sc) (chA ⟨1, cp, cd, cv⟩)) := H2.out.below hb
  clear hb c0 c1 c2 c3 s0 s1 s2 s3
  obtain ⟨c0, c1, c2, c3⟩ := cells_4 H3.out.pc
  obtain ⟨s0, s1, s2, s3⟩ := cells_4 H3.out.pa
  go_wp2_with fail
  refine (HAB.out _).mono ?_
  rintro e w4 ⟨rfl, hb⟩
  have H4 : Hid (RC w w4 (shA st p 2 sa sn sc) (chA ⟨1, cp, cd, cv⟩)) := H3.out.below hb
  clear hb c0 c1 c2 c3 s0 s1 s2 s3
  obtain ⟨c0, c1, c2, c3⟩ := cells_4 H4.out.pc
  obtain ⟨s0, s1, s2, s3⟩ := cells_4 H4.out.pa
  go_wp2_with fail
  refine (HFU.out _ H4.out.low).mono ?_
  rintro e w5 ⟨rfl, hb⟩
  have H5 : Hid (RC w w5 (shA st p 2 sa sn sc) (chA ⟨1, cp, cd, cv⟩)) := H4.out.below hb
  clear hb c0 c1 c2 c3 s0 s1 s2 s3
  obtain ⟨c0, c1, c2, c3⟩ := cells_4 H5.out.pc
  obtain ⟨s0, s1, s2, s3⟩ := cells_4 H5.out.pa
  go_wp2_with fail
  refine (HHO.out _).mono ?_
  rintro e w6 ⟨rfl, hb⟩
  have H6 : Hid (RC w w6 (shA st p 2 sa sn sc) (chA ⟨1, cp, cd, cv⟩)) := H5.out.below hb
  clear hb c0 c1 c2 c3 s0 s1 s2 s3
  obtain ⟨c0, c1, c2, c3⟩ := cells_4 H6.out.pc
  obtain ⟨s0, s1, s2, s3⟩ := cells_4 H6.out.pa
  have hsA : w.heap.size < w6.heap.size := lt_of_blk H6.out.pa
  have hsC : w.heap.size + 1 < w6.heap.size := lt_of_blk H6.out.pc
  have sA : ∀ ob o, (w6.alloc ob).cell? ⟨w.heap.size, o, none⟩ = w6.cell? ⟨w.heap.size, o, none⟩ := (fun ob o => World.cell?_of_block (Below.heap_alloc w6 ob _ hsA))
  have sC : ∀ ob o, (w6.alloc ob).cell? ⟨w.heap.size + 1, o, none⟩ = w6.cell? ⟨w.heap.size + 1, o, none⟩ := (fun ob o => World.cell?_of_block (Below.heap_alloc w6 ob _ hsC))
  go_wp2_with fail
  refine (HPU.out _ (H6.out.low.alloc H6.out.low.size _)).mono ?_
  rintro e w9 ⟨v9, rfl, ho9, hb9⟩
  obtain ⟨a9, cap9, rfl⟩ := owns_formR ho9
  have HO9 : Hid (Ss w9 a9 (insP l ⟨cp, ⟨#[]⟩, 0⟩)) := ss_of_row ho9
  have HB9 : Hid (Below w.heap.size w w9) := trans2 (H6.out.low.alloc H6.out.low.size _) hb9
  clear ho9 hb9 c0 c1 c2 c3 s0 s1 s2 s3
  go_wp2_with fail
  go_ret2
  exact .inr ⟨_, a9, cap9, HS0.out, rfl, HO9.out, HB9.out⟩
set_option maxHeartbeats 6400000 in
set_option maxRecDepth 100000 in
theorem chg_made_up_o (st : Int) (p : ByteArray) (k : Int) (sa : Option Addr) (sn sc : Nat) (a : Option Addr) (n cap : Nat) (l : List SeenT) (ck : Int) (cp cd : ByteArray) (cv : Int) (w : World) (hs : Ss w a l) (hn : l.length = n) (hI : InvF l) (hp : isP cp = true) (h2 : covers k p 1 cp = true) (h3 : hasP l cp = false) (h5 : cp ≠ p) (h4 : hasP l (upP cp) = true) (h6 : fitB cd cv = true) (h7 : n < 64) (h8 : k ≠ 2) :
    Calls Tryz.prog 23 #[.agg (shA st p k sa sn sc), .slice a n cap, .agg (chA ⟨1, cp, cd, cv⟩)] w fun e w' => ChgEnd k p l ⟨1, cp, cd, cv⟩ w e w' := by
  have HS : Hid (Ss w a l) := hs
  have HN : Hid (l.length = n) := hn
  have HI : Hid (InvF l) := hI
  have hn64 : n ≤ 64 := by rw [← hn]; exact hI.len
  have H0 : Hid (RC w _ (shA st p k sa sn sc) (chA ⟨1, cp, cd, cv⟩)) := RC.start w _ _
  have h1 : covers 3 pRoot 1 cp = true := by rw [cov_root, hp]; simp [okC]
  have HIS : Hid (∀ w', Calls Tryz.prog 39 #[.string cp] w' fun e w'' => e = .returned (.bool true) ∧ Below w'.heap.size w' w'') := fun w' => by have := refIs_any cp w'; rw [hp] at this; exact this
  have HCV : Hid (∀ w', Calls Tryz.prog 45 #[.int .i64 k, .string p, .int .i64 1, .string cp] w' fun e w'' => e = .returned (.bool true) ∧ Below w'.heap.size w' w'') := fun w' => by have := refCovers_any k 1 p cp w'; rw [h2] at this; exact this
  have HFI : Hid (∀ w', Below w.heap.size w w' → Calls Tryz.prog 43 #[.slice a n cap, .string cp] w' fun e w'' => e = .returned (.int .i64 (-1)) ∧ Below w'.heap.size w' w'') := fun w' hb => by
    have := refFind_pos a cap n l cp w' (hs.below hb) hn (by omega) hI.asc
    rw [h3] at this
    simpa using this
  have hse : seeB k ⟨1, cp, cd, cv⟩ = ⟨cp, cd, cv⟩ := by unfold seeB; simp [h8]
  have HS0 : Hid (stepF k p l ⟨1, cp, cd, cv⟩ = some (insP l ⟨cp, cd, cv⟩)) := by show _ = _; simp [stepF, h1, h2, h3, mkB, h6, h4, hn, h7, hse]
  have HAB : Hid (∀ w', Calls Tryz.prog 44 #[.string cp] w' fun e w'' => e = .returned (.string (upP cp)) ∧ Below w'.heap.size w' w'') := above_any cp
  have HFU : Hid (∀ w', Below w.heap.size w w' → Calls Tryz.prog 43 #[.slice a n cap, .string (upP cp)] w' fun e w'' => e = .returned (.int .i64 ((pos l (upP cp) : Nat) : Int)) ∧ Below w'.heap.size w' w'') := fun w' hb => by
    have := refFind_pos a cap n l (upP cp) w' (hs.below hb) hn (by omega) hI.asc
    rw [h4] at this
    simpa using this
  have hne := eqLn h5
  have hu0 : ¬ ((pos l (upP cp) : Nat) : Int) < 0 := by omega
  have HHO : Hid (∀ w', Calls Tryz.prog 41 #[.string cd, .int .i64 cv] w' fun e w'' => e = .returned (.bool true) ∧ Below w'.heap.size w' w'') := fun w' => (holds_any cd cv w').mono (fun e w'' h => by rw [h6] at h; exact ⟨h.1, by rw [h.2]; exact Below.refl _ _⟩)
  have HPU : Hid (∀ w', Below w.heap.size w w' → Calls Tryz.prog 46 #[.slice a n cap, .agg (seC ⟨cp, cd, cv⟩)] w' fun e w'' => ∃ v, e = .returned v ∧ w''.ownsRow w'.heap.size 36 3 v (insP l ⟨cp, cd, cv⟩).length (seCs (insP l ⟨cp, cd, cv⟩)) ∧ Below w'.heap.size w' w'') := fun w' hb => put_any a cap n l ⟨cp, cd, cv⟩ w' (hs.below hb) hn (by omega) (fun s hs' => by have := isP_sizeR (hI.isp s hs'); unfold maxLen; omega) (by have := isP_sizeR hp; show cp.size ≤ _; unfold maxLen; omega) hI.asc h3
  have hf : ¬ (64 : Int) ≤ (n : Int) := by omega
  clear hs hn hI h1
  obtain ⟨c0, c1, c2, c3⟩ := cells_4 H0.out.pc
  obtain ⟨s0, s1, s2, s3⟩ := cells_4 H0.out.pa
  go_enter Tryz.func23, Tryz.ntmps23
  go_wp2_with fail
  refine (HIS.out _).mono ?_
  rintro e w1 ⟨rfl, hb⟩
  have H1 : Hid (RC w w1 (shA st p k sa sn sc) (chA ⟨1, cp, cd, cv⟩)) := H0.out.below hb
  clear hb c0 c1 c2 c3 s0 s1 s2 s3
  obtain ⟨c0, c1, c2, c3⟩ := cells_4 H1.out.pc
  obtain ⟨s0, s1, s2, s3⟩ := cells_4 H1.out.pa
  go_wp2_with fail
  refine (HCV.out _).mono ?_
  rintro e w2 ⟨rfl, hb⟩
  have H2 : Hid (RC w w2 (shA st p k sa sn sc) (chA ⟨1, cp, cd, cv⟩)) := H1.out.below hb
  clear hb c0 c1 c2 c3 s0 s1 s2 s3
  obtain ⟨c0, c1, c2, c3⟩ := cells_4 H2.out.pc
  obtain ⟨s0, s1, s2, s3⟩ := cells_4 H2.out.pa
  go_wp2_with fail
  refine (HFI.out _ H2.out.low).mono ?_
  rintro e w3 ⟨rfl, hb⟩
  have H3 : Hid (RC w w3 (shA st p k sa sn sc) (chA ⟨1, cp, cd, cv⟩)) := H2.out.below hb
  clear hb c0 c1 c2 c3 s0 s1 s2 s3
  obtain ⟨c0, c1, c2, c3⟩ := cells_4 H3.out.pc
  obtain ⟨s0, s1, s2, s3⟩ := cells_4 H3.out.pa
  go_wp2_with fail
  refine (HAB.out _).mono ?_
  rintro e w4 ⟨rfl, hb⟩
  have H4 : Hid (RC w w4 (shA st p k sa sn sc) (chA ⟨1, cp, cd, cv⟩)) := H3.out.below hb
  clear hb c0 c1 c2 c3 s0 s1 s2 s3
  obtain ⟨c0, c1, c2, c3⟩ := cells_4 H4.out.pc
  obtain ⟨s0, s1, s2, s3⟩ := cells_4 H4.out.pa
  go_wp2_with fail
  refine (HFU.out _ H4.out.low).mono ?_
  rintro e w5 ⟨rfl, hb⟩
  have H5 : Hid (RC w w5 (shA st p k sa sn sc) (chA ⟨1, cp, cd, cv⟩)) := H4.out.below hb
  clear hb c0 c1 c2 c3 s0 s1 s2 s3
  obtain ⟨c0, c1, c2, c3⟩ := cells_4 H5.out.pc
  obtain ⟨s0, s1, s2, s3⟩ := cells_4 H5.out.pa
  go_wp2_with fail
  refine (HHO.out _).mono ?_
  rintro e w6 ⟨rfl, hb⟩
  have H6 : Hid (RC w w6 (shA st p k sa sn sc) (chA ⟨1, cp, cd, cv⟩)) := H5.out.below hb
  clear hb c0 c1 c2 c3 s0 s1 s2 s3
  obtain ⟨c0, c1, c2, c3⟩ := cells_4 H6.out.pc
  obtain ⟨s0, s1, s2, s3⟩ := cells_4 H6.out.pa
  have hsA : w.heap.size < w6.heap.size := lt_of_blk H6.out.pa
  have hsC : w.heap.size + 1 < w6.heap.size := lt_of_blk H6.out.pc
  have sA : ∀ ob o, (w6.alloc ob).cell? ⟨w.heap.size, o, none⟩ = w6.cell? ⟨w.heap.size, o, none⟩ := (fun ob o => World.cell?_of_block (Below.heap_alloc w6 ob _ hsA))
  have sC : ∀ ob o, (w6.alloc ob).cell? ⟨w.heap.size + 1, o, none⟩ = w6.cell? ⟨w.heap.size + 1, o, none⟩ := (fun ob o => World.cell?_of_block (Below.heap_alloc w6 ob _ hsC))
  go_wp2_with fail
  refine (HPU.out _ (H6.out.low.alloc H6.out.low.size _)).mono ?_
  rintro e w9 ⟨v9, rfl, ho9, hb9⟩
  obtain ⟨a9, cap9, rfl⟩ := owns_formR ho9
  have HO9 : Hid (Ss w9 a9 (insP l ⟨cp, cd, cv⟩)) := ss_of_row ho9
  have HB9 : Hid (Below w.heap.size w w9) := trans2 (H6.out.low.alloc H6.out.low.size _) hb9
  clear ho9 hb9 c0 c1 c2 c3 s0 s1 s2 s3
  go_wp2_with fail
  go_ret2
  exact .inr ⟨_, a9, cap9, HS0.out, rfl, HO9.out, HB9.out⟩
end Go.Proofs.YtaieijbdknfcjaaGreatDoor
