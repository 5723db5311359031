/-
  ShotFolds: the walk.
-/
import Derived.Test.YtaieijbdknfcjaaGreatDoorGLaw3
namespace Go.Proofs.YtaieijbdknfcjaaGreatDoor
open Go.RowKit Classical
set_option linter.unusedVariables false
set_option linter.unusedSimpArgs false

theorem turn_ok {l : List SeenT} (h : ∀ s ∈ l, s.p.size ≤ maxLen) : ∀ s ∈ l.map turn, s.p.size ≤ maxLen := fun s hs => by
  obtain ⟨t, ht, rfl⟩ := List.mem_map.1 hs
  exact h t ht
theorem good_a : Good 0 ⟨#[47, 97]⟩ 1 [] := ⟨by decide, (cov_self 1 _).2 ⟨by decide +kernel, by decide, by decide⟩, by simp, fun h => absurd h.1 (by decide), fun i n h => by simp at h⟩
theorem turned0_n (base g cap n : Nat) (st : Int) (p : ByteArray) (k : Int) (l : List SeenT) (w : World) (hn : l.length = n) (hr : w.ownsRow base 36 3 (.slice (some ⟨g, 0, none⟩) (n + 1) cap) (n + 1) (seCs l ++ markT.cells)) (hl : n ≤ 1000) :
    Calls Tryz.prog 9 #[.agg (shA st p k (some ⟨g, 0, none⟩) n cap), .int .i64 0] w fun e w' => ∃ a c, e = .returned (.agg (shA st p k a n c)) ∧ Ss w' a (l.map turn) ∧ (a = none → c = 0) ∧ w'.ownsRow base 36 3 (.slice (some ⟨g, 0, none⟩) (n + 1) cap) (n + 1) (seCs (l.map turn) ++ markT.cells) ∧ Chg w w' (fun j => j = g) := by
  subst hn
  exact turned_any base g cap st p k l w hr hl
/-- What stands while the law is played. -/
structure GI (W w : World) (bc gc cc n gh ch hm : Nat) (A C : Array Value) (l : List SeenT) (cs : List ChT) : Prop where
  pa : w.heap[W.heap.size]? = some (.cells A 24 (0, 0))
  pc : w.heap[bc]? = some (.cells C 24 (0, 0))
  row : w.ownsRow W.heap.size 36 3 (.slice (some ⟨gc, 0, none⟩) (n + 1) cc) (n + 1) (seCs l ++ markT.cells)
  rh : w.ownsRow W.heap.size 39 4 (.slice (some ⟨gh, 0, none⟩) (hm + 1) ch) (hm + 1) (chCs cs ++ otherT.cells)
  low : Below W.heap.size W w
theorem GI.below {W w w' : World} {bc gc cc n gh ch hm : Nat} {A C : Array Value} {l : List SeenT} {cs : List ChT} (h : GI W w bc gc cc n gh ch hm A C l cs) (hb : Below w.heap.size w w') : GI W w' bc gc cc n gh ch hm A C l cs := ⟨kept_block hb h.pa, kept_block hb h.pc, owns_below h.row hb, owns_below h.rh hb, trans2 h.low hb⟩
theorem kind_ne {w : World} {B n cap g b : Nat} {e s : Nat} {xs : List Value} {cs : Array Value} {t : TypeId} (hr : w.ownsRow B e s (.slice (some ⟨g, 0, none⟩) n cap) n xs) (h : w.heap[b]? = some (.cells cs t (0, 0))) (ht : t ≠ e) : ¬ b = g := fun he => by
  obtain ⟨cur, hk⟩ := owns_kind hr rfl
  rw [he, hk] at h
  cases h
  exact ht rfl
theorem GI.turn {W w w' : World} {bc gc cc n gh ch hm : Nat} {A C : Array Value} {l l' : List SeenT} {cs : List ChT} (h : GI W w bc gc cc n gh ch hm A C l cs) (hr : w'.ownsRow W.heap.size 36 3 (.slice (some ⟨gc, 0, none⟩) (n + 1) cc) (n + 1) (seCs l' ++ markT.cells)) (hc : Chg w w' (fun j => j = gc)) : GI W w' bc gc cc n gh ch hm A C l' cs := by
  refine ⟨?_, ?_, hr, owns_same h.rh (fun j hj => hc.block j (h.rh.lt j hj).2 (fun e => ?_)), h.low.trans (hc.below h.low.size (fun j _ e => by rw [e]; exact (h.row.lt gc rfl).1))⟩
  · rw [hc.block _ (lt_of_blk h.pa) (kind_ne h.row h.pa (by decide))]; exact h.pa
  · rw [hc.block _ (lt_of_blk h.pc) (kind_ne h.row h.pc (by decide))]; exact h.pc
  · cases hj
    obtain ⟨cur, hk⟩ := owns_kind h.rh rfl
    exact kind_ne h.row hk (by decide) e
theorem GI.turnH {W w w' : World} {bc gc cc n gh ch hm : Nat} {A C : Array Value} {l : List SeenT} {cs cs' : List ChT} (h : GI W w bc gc cc n gh ch hm A C l cs) (hr : w'.ownsRow W.heap.size 39 4 (.slice (some ⟨gh, 0, none⟩) (hm + 1) ch) (hm + 1) (chCs cs' ++ otherT.cells)) (hc : Chg w w' (fun j => j = gh)) : GI W w' bc gc cc n gh ch hm A C l cs' := by
  refine ⟨?_, ?_, owns_same h.row (fun j hj => hc.block j (h.row.lt j hj).2 (fun e => ?_)), hr, h.low.trans (hc.below h.low.size (fun j _ e => by rw [e]; exact (h.rh.lt gh rfl).1))⟩
  · rw [hc.block _ (lt_of_blk h.pa) (kind_ne h.rh h.pa (by decide))]; exact h.pa
  · rw [hc.block _ (lt_of_blk h.pc) (kind_ne h.rh h.pc (by decide))]; exact h.pc
  · cases hj
    obtain ⟨cur, hk⟩ := owns_kind h.row rfl
    exact kind_ne h.rh hk (by decide) e
set_option maxHeartbeats 12800000 in
set_option maxRecDepth 100000 in
theorem folds_walk (W : World) (s : ShT) (stamp : Int) (ha : Option Addr) (hc : Nat) (cs : List ChT) (hs : Ss W s.a s.l) (hsn : s.a = none → s.c = 0) (hok : ∀ x ∈ s.l, x.p.size ≤ maxLen) (hh : Hs W ha cs) (hhn : ha = none → hc = 0) (hg : Ground W) :
    Calls Tryz.prog 3 #[s.val, .int .i64 stamp, .slice ha cs.length hc] W fun e w' => e = .returned (.bool true) ∧ Below W.heap.size W w' := by
  by_cases hls : s.l.length ≤ 70
  · have hls' : (s.l.length : Int) ≤ 70 := by omega
    have HSM : Hid (∀ w, Calls Tryz.prog 4 #[s.val] w fun e w' => e = .returned (.bool true) ∧ Below w.heap.size w w') := fun w => (small_any s w).mono (fun e w' h => ⟨by rw [h.1, decide_eq_true hls'], h.2⟩)
    have HS : Hid (Ss W s.a s.l) := hs
    have HSN : Hid _ := hsn
    have HOK : Hid (∀ x ∈ s.l, x.p.size ≤ maxLen) := hok
    have HG : Hid (Ground W) := hg
    have HLS : Hid (s.l.length ≤ 70) := hls
    have HH : Hid (Hs W ha cs) := hh
    have HHN : Hid (ha = none → hc = 0) := hhn
    obtain ⟨hm, hhm⟩ : ∃ hm, cs.length = hm := ⟨_, rfl⟩
    have HHM : Hid (cs.length = hm) := hhm
    rw [hhm]
    clear hs hsn hls hls' hok hg hh hhn hhm
    obtain ⟨st, p, k, a, c, l⟩ := s
    obtain ⟨n, hn⟩ : ∃ n, l.length = n := ⟨_, rfl⟩
    have HN : Hid (l.length = n) := hn
    have HA0 : Hid ((W.alloc (.cells (shA st p k a n c) 24)).heap[W.heap.size]? = some (.cells (shA st p k a n c) 24 (0, 0))) := heap_alloc_new _ _
    have HB0 : Hid (Below W.heap.size W (W.alloc (.cells (shA st p k a n c) 24))) := (Below.refl _ _).alloc (Nat.le_refl _) _
    have HLS' : Hid (n ≤ 70) := by have := HLS.out; show _ ≤ _; rw [← hn]; exact this
    have HSM' : Hid (∀ w, Calls Tryz.prog 4 #[.agg (shA st p k a n c)] w fun e w' => e = .returned (.bool true) ∧ Below w.heap.size w w') := by rw [← hn]; exact HSM.out
    show Calls Tryz.prog 3 #[.agg (shA st p k a l.length c), .int .i64 stamp, .slice ha hm hc] W _
    rw [hn]
    clear HLS HSM hn
    by_cases h80 : hm ≤ 80
    · have h80' : ¬ (80 : Int) < (hm : Int) := by omega
      go_enter Tryz.func3, Tryz.ntmps3
      go_wp2_with fail
      refine (HSM'.out _).mono ?_
      rintro e w1 ⟨rfl, hb1⟩
      have HA1 : Hid (w1.heap[W.heap.size]? = some (.cells (shA st p k a n c) 24 (0, 0))) := kept_block hb1 HA0.out
      have HB1 : Hid (Below W.heap.size W w1) := trans2 HB0.out hb1
      obtain ⟨a0, a1, a2, a3⟩ := cells_4 HA1.out
      clear hb1
      have HRO : Hid (Calls Tryz.prog 5 #[.agg (shA st p k a n c)] w1 fun e w' => ∃ g cap, e = .returned (.agg (shA st p k (some ⟨g, 0, none⟩) n cap)) ∧ w'.ownsRow w1.heap.size 36 3 (.slice (some ⟨g, 0, none⟩) (n + 1) cap) (n + 1) (seCs l ++ markT.cells) ∧ Below w1.heap.size w1 w') := by
        have := roomy_any w1.heap.size st p k a c l w1 (HS.out.below HB1.out) (by have := HLS'.out; rw [HN.out]; omega) (Nat.le_refl _) HSN.out
        rw [HN.out] at this
        exact this
      go_wp2_with fail
      refine Calls.mono HRO.out ?_
      rintro e w2 ⟨gc, cc, rfl, ho2, hb2⟩
      have HA2 : Hid (w2.heap[W.heap.size]? = some (.cells (shA st p k a n c) 24 (0, 0))) := kept_block hb2 HA1.out
      have HB2 : Hid (Below W.heap.size W w2) := trans2 HB1.out hb2
      have HO2 : Hid (w2.ownsRow W.heap.size 36 3 (.slice (some ⟨gc, 0, none⟩) (n + 1) cc) (n + 1) (seCs l ++ markT.cells)) := ownsLowG ho2 HB1.out.size
      have HBa : Hid (Below W.heap.size W (w2.alloc (.cells (shA st p k (some ⟨gc, 0, none⟩) n cc) 24))) := trans2 HB2.out ((Below.refl _ _).alloc (Nat.le_refl _) _)
      clear hb2 ho2 a0 a1 a2 a3
      go_wp2_with fail
      refine (roomyChanges_any ha hc hm cs _ (HH.out.below HBa.out) HHM.out (by omega) HHN.out).mono ?_
      rintro e w3 ⟨gh, ch, rfl, ho3, hb3⟩
      have H3 : Hid (GI W w3 w2.heap.size gc cc n gh ch hm (shA st p k a n c) (shA st p k (some ⟨gc, 0, none⟩) n cc) l cs) := ⟨kept_block hb3 (new_old HA2.out _), kept_block hb3 (heap_alloc_new _ _), owns_below (World.ownsRow.alloc HO2.out _) hb3, ownsLowG ho3 HBa.out.size, trans2 HBa.out hb3⟩
      clear hb3 ho3
      obtain ⟨a0, a1, a2, a3⟩ := cells_4 H3.out.pa
      obtain ⟨c0, c1, c2, c3⟩ := cells_4 H3.out.pc
      go_wp2_with fail
      refine (folds_any W.heap.size gc cc n st p k l a c stamp gh ch hm cs ha hc w3 HN.out (HG.out.below H3.out.low) H3.out.row (HS.out.below H3.out.low) (by have := HLS'.out; omega) HOK.out HSN.out HHM.out H3.out.rh (HH.out.below H3.out.low) (by omega)).mono ?_
      rintro e w4 ⟨rfl, hb4⟩
      have H4 : Hid (GI W w4 w2.heap.size gc cc n gh ch hm (shA st p k a n c) (shA st p k (some ⟨gc, 0, none⟩) n cc) l cs) := H3.out.below hb4
      clear hb4 a0 a1 a2 a3 c0 c1 c2 c3
      go_wp2_with fail
      refine (turnedChanges_any W.heap.size gh ch hm cs w4 HHM.out H4.out.rh (by omega)).mono ?_
      rintro e w5 ⟨xa, xc, rfl, hx5, hn5, hf5, hr5, hc5⟩
      have H5 : Hid (GI W w5 w2.heap.size gc cc n gh ch hm (shA st p k a n c) (shA st p k (some ⟨gc, 0, none⟩) n cc) l (cs.map turnC)) := H4.out.turnH hr5 hc5
      have HX5 : Hid (Hs w5 xa (cs.map turnC)) := hx5
      have HXF : Hid (∀ b o, xa = some ⟨b, o, none⟩ → ¬ b = gc) := fun b o hb e => by
        have h1 := hf5 b o hb
        have h2 := (H4.out.row.lt gc rfl).2
        omega
      have HMC : Hid ((cs.map turnC).length = hm) := by show _ = _; rw [List.length_map, HHM.out]
      have HL1 : Hid ((l.map turn).length = n) := by show _ = _; rw [List.length_map, HN.out]
      have HK1 : Hid (∀ x ∈ l.map turn, x.p.size ≤ maxLen) := turn_ok HOK.out
      clear hx5 hn5 hf5 hr5 hc5
      have HQ1 : Hid (∀ w', Below W.heap.size W w' → Calls Tryz.prog 10 #[.agg #[.int .i64 0, .string ⟨#[47, 97]⟩, .int .i64 1, .slice none 0 0], .int .i64 7, .slice none 0 0] w' fun e w'' => ∃ p' k' la n' lc, e = .returned (.tuple #[.agg (shA 7 p' k' la n' lc), .int .i64 0]) ∧ Below w'.heap.size w' w'') := fun w' hb => by
        refine (fold_any 0 ⟨#[47, 97]⟩ 1 none 0 0 [] 7 none 0 0 [] w' (HG.out.below hb) (.inl rfl) rfl (fun s hs => absurd hs List.not_mem_nil) (Nat.zero_le _) (Nat.le_refl _) (.inl rfl) rfl (by omega)).mono ?_
        rintro e w'' ⟨st', p', k', la, lc, l', code, rfl, _, hr, _, hb'⟩
        obtain ⟨rfl, rfl, _, _, _⟩ := hr.ok good_a (by omega) [] rfl
        exact ⟨p', k', la, l'.length, lc, rfl, hb'⟩
      obtain ⟨a0, a1, a2, a3⟩ := cells_4 H5.out.pa
      obtain ⟨c0, c1, c2, c3⟩ := cells_4 H5.out.pc
      go_wp2_with fail
      go_region_held3 (fun w' => w'.cell? ⟨W.heap.size, 0, none⟩ = some (.int .i64 st) ∧ w'.cell? ⟨W.heap.size, 1, none⟩ = some (.string p) ∧ w'.cell? ⟨W.heap.size, 2, none⟩ = some (.int .i64 k) ∧ w'.cell? ⟨W.heap.size, 3, none⟩ = some (.slice a n c) ∧ w'.cell? ⟨w2.heap.size, 0, none⟩ = some (.int .i64 st) ∧ w'.cell? ⟨w2.heap.size, 1, none⟩ = some (.string p) ∧ w'.cell? ⟨w2.heap.size, 2, none⟩ = some (.int .i64 k) ∧ w'.cell? ⟨w2.heap.size, 3, none⟩ = some (.slice (some ⟨gc, 0, none⟩) n cc)) (first | exact ⟨a0, a1, a2, a3, c0, c1, c2, c3⟩ | go_keep)
        (first
        | (go_at_call 7; refine (folds_any W.heap.size gc cc n st p k (l.map turn) ya yc stamp gh ch hm (cs.map turnC) xa xc w7 HL1.out (HG.out.below H7.out.low) H7.out.row HY7.out (by have := HLS'.out; omega) HK1.out HYN.out HMC.out H7.out.rh HX7.out (by omega)).mono ?_; rintro e w8 ⟨rfl, hb8⟩
           have H8 : Hid (GI W w8 w2.heap.size gc cc n gh ch hm (shA st p k a n c) (shA st p k (some ⟨gc, 0, none⟩) n cc) (l.map turn) (cs.map turnC)) := H7.out.below hb8
           clear hb8 a0 a1 a2 a3 c0 c1 c2 c3
           obtain ⟨a0, a1, a2, a3⟩ := cells_4 H8.out.pa
           obtain ⟨c0, c1, c2, c3⟩ := cells_4 H8.out.pc)
        | (go_at_call 9; refine (turned0_n W.heap.size gc cc n st p k l w6 HN.out H6.out.row (by have := HLS'.out; omega)).mono ?_; rintro e w7 ⟨ya, yc, rfl, hy7, hn7, hr7, hc7⟩
           have H7 : Hid (GI W w7 w2.heap.size gc cc n gh ch hm (shA st p k a n c) (shA st p k (some ⟨gc, 0, none⟩) n cc) (l.map turn) (cs.map turnC)) := H6.out.turn hr7 hc7
           have HY7 : Hid (Ss w7 ya (l.map turn)) := hy7
           have HYN : Hid (ya = none → yc = 0) := hn7
           have HX7 : Hid (Hs w7 xa (cs.map turnC)) := hs_chg HX6.out hc7 HXF.out
           clear hy7 hn7 hr7 hc7 a0 a1 a2 a3 c0 c1 c2 c3
           obtain ⟨a0, a1, a2, a3⟩ := cells_4 H7.out.pa
           obtain ⟨c0, c1, c2, c3⟩ := cells_4 H7.out.pc)
        | (go_at_call 7; refine (folds_any W.heap.size gc cc n st p k l a c stamp gh ch hm (cs.map turnC) xa xc _ HN.out (HG.out.below (below_drew H5.out.low)) (owns_below H5.out.row ⟨rfl, rfl, rfl, Nat.le_refl _, fun _ _ => rfl⟩) (HS.out.below (below_drew H5.out.low)) (by have := HLS'.out; omega) HOK.out HSN.out HMC.out (owns_below H5.out.rh ⟨rfl, rfl, rfl, Nat.le_refl _, fun _ _ => rfl⟩) (HX5.out.below (below_drew (Below.refl _ _))) (by omega)).mono ?_; rintro e w6 ⟨rfl, hb6⟩
           have H6 : Hid (GI W w6 w2.heap.size gc cc n gh ch hm (shA st p k a n c) (shA st p k (some ⟨gc, 0, none⟩) n cc) l (cs.map turnC)) := H5.out.below (of_drew hb6)
           have HX6 : Hid (Hs w6 xa (cs.map turnC)) := HX5.out.below (of_drew hb6)
           clear hb6 a0 a1 a2 a3 c0 c1 c2 c3
           obtain ⟨a0, a1, a2, a3⟩ := cells_4 H6.out.pa
           obtain ⟨c0, c1, c2, c3⟩ := cells_4 H6.out.pc)
        | fail)
      go_wp2_with fail
      refine (HQ1.out _ H8.out.low).mono ?_
      rintro e w9 ⟨p9, k9, la9, n9, lc9, rfl, hb9⟩
      have HB9 : Hid (Below W.heap.size W (w9.alloc (.cells (shA 7 p9 k9 la9 n9 lc9) 24))) := trans2 (trans2 H8.out.low hb9) ((Below.refl _ _).alloc (Nat.le_refl _) _)
      clear hb9
      go_wp2_with fail
      go_ret
      exact ⟨rfl, HB9.out⟩
    · have h80' : (80 : Int) < (hm : Int) := by omega
      go_enter Tryz.func3, Tryz.ntmps3
      go_wp2_with fail
      refine (HSM'.out _).mono ?_
      rintro e w1 ⟨rfl, hb1⟩
      have HB1 : Hid (Below W.heap.size W w1) := trans2 HB0.out hb1
      clear hb1
      go_wp2_with fail
      go_ret
      exact ⟨rfl, HB1.out⟩
  · have hls' : ¬ (s.l.length : Int) ≤ 70 := by omega
    have HSM : Hid (∀ w, Calls Tryz.prog 4 #[s.val] w fun e w' => e = .returned (.bool false) ∧ Below w.heap.size w w') := fun w => (small_any s w).mono (fun e w' h => ⟨by rw [h.1, decide_eq_false hls'], h.2⟩)
    clear hs hsn hls hls' hok hg hh hhn
    obtain ⟨st, p, k, a, c, l⟩ := s
    go_enter Tryz.func3, Tryz.ntmps3
    go_wp2_with fail
    have HB0 : Hid (Below W.heap.size W (W.alloc (.cells (shA st p k a l.length c) 24))) := (Below.refl _ _).alloc (Nat.le_refl _) _
    refine (HSM.out _).mono ?_
    rintro e w1 ⟨rfl, hb1⟩
    have HB1 : Hid (Below W.heap.size W w1) := trans2 HB0.out hb1
    clear hb1
    go_wp2_with fail
    go_ret
    exact ⟨rfl, HB1.out⟩
end Go.Proofs.YtaieijbdknfcjaaGreatDoor
