import Derived.Test.YtaieijbdknfcjaaGreatDoorGFold
import Derived.Test.YtaieijbdknfcjaaGreatDoorGFold3
import Derived.Test.YtaieijbdknfcjaaGreatDoorGChg
import Derived.Test.YtaieijbdknfcjaaGreatDoorCRefCheck
namespace Go.Proofs.YtaieijbdknfcjaaGreatDoor
open Go.RowKit Classical
set_option linter.unusedVariables false
set_option linter.unusedSimpArgs false

set_option maxHeartbeats 6400000 in
set_option maxRecDepth 100000 in
theorem fold_arg (st : Int) (p : ByteArray) (k : Int) (a : Option Addr) (n c : Nat) (l : List SeenT) (stamp : Int) (ha : Option Addr) (hm hc : Nat) (cs : List ChT) (w : World) (hg : Ground w) (hs : Ss w a l) (hn : l.length = n) (hok : ∀ s ∈ l, s.p.size ≤ maxLen) (hl : n ≤ maxLen) (hcn : n ≤ c) (hG : Good st p k l) (hA : stamp ≤ st ∨ 2147483647 < stamp) :
    Calls Tryz.prog 10 #[.agg (shA st p k a n c), .int .i64 stamp, .slice ha hm hc] w fun e w' => FoldEnd st p k l stamp cs w w' e := by
  have H0 : Hid (FB w _ (shA st p k a n c) shZ) := FB.start w _ _
  have HC : Hid (∀ w', Below w.heap.size w w' → Calls Tryz.prog 18 #[.agg (shA st p k a n c)] w' fun e w'' => e = .returned (.int .i64 0) ∧ Below w'.heap.size w' w'') := fun w' hb => by
    have := check_any st p k a c l w' (hg.below hb) (hs.below hb) hok (by rw [hn]; exact hl) (by rw [hn]; exact hcn)
    rw [hn, chk_good hG] at this
    exact this
  have HR : Hid (FoldRes st p k l stamp cs 1 0 ⟨#[]⟩ 0 []) := foldRes_arg hG hA
  clear hg hs hok hl hcn hG
  obtain ⟨a0, a1, a2, a3⟩ := cells_4 H0.out.pa
  by_cases h1 : stamp ≤ st
  · go_enter Tryz.func10, Tryz.ntmps10
    go_wp2_with fail
    refine (HC.out _ H0.out.low).mono ?_
    rintro e w1 ⟨rfl, hb1⟩
    have H1 : Hid (FB w w1 (shA st p k a n c) shZ) := H0.out.below hb1
    clear hb1 a0 a1 a2 a3
    obtain ⟨a0, a1, a2, a3⟩ := cells_4 H1.out.pa
    obtain ⟨r0, r1, r2, r3⟩ := cells_4 H1.out.pr
    have f4 := free_4 H1.out.pr
    go_wp2_with fail
    exact bodyPost_ret (results_cell_tmp rfl _ _ (w.heap.size + 1) 24 _ (0, 0) _ _ rfl rfl (fill_4 H1.out.pr) Tryz.underlying24 rfl (by kernel_rfl)) rfl ⟨0, ⟨#[]⟩, 0, none, 0, [], 1, rfl, .inl rfl, HR.out, by simp, fillB_4 H1.out.low (by omega)⟩
  · have h2 : 2147483647 < stamp := by rcases hA with h | h; exact absurd h h1; exact h
    go_enter Tryz.func10, Tryz.ntmps10
    go_wp2_with fail
    refine (HC.out _ H0.out.low).mono ?_
    rintro e w1 ⟨rfl, hb1⟩
    have H1 : Hid (FB w w1 (shA st p k a n c) shZ) := H0.out.below hb1
    clear hb1 a0 a1 a2 a3
    obtain ⟨a0, a1, a2, a3⟩ := cells_4 H1.out.pa
    obtain ⟨r0, r1, r2, r3⟩ := cells_4 H1.out.pr
    have f4 := free_4 H1.out.pr
    go_wp2_with fail
    exact bodyPost_ret (results_cell_tmp rfl _ _ (w.heap.size + 1) 24 _ (0, 0) _ _ rfl rfl (fill_4 H1.out.pr) Tryz.underlying24 rfl (by kernel_rfl)) rfl ⟨0, ⟨#[]⟩, 0, none, 0, [], 1, rfl, .inl rfl, HR.out, by simp, fillB_4 H1.out.low (by omega)⟩
end Go.Proofs.YtaieijbdknfcjaaGreatDoor
namespace Go.Proofs.YtaieijbdknfcjaaGreatDoor
open Go.RowKit Classical

theorem fold_any (st : Int) (p : ByteArray) (k : Int) (a : Option Addr) (n c : Nat) (l : List SeenT) (stamp : Int) (ha : Option Addr) (hm hc : Nat) (cs : List ChT) (w : World) (hg : Ground w) (hs : Ss w a l) (hn : l.length = n) (hok : ∀ s ∈ l, s.p.size ≤ maxLen) (hl : n ≤ maxLen) (hcn : n ≤ c) (hh : Hs w ha cs) (hhm : cs.length = hm) (hm9 : hm ≤ 1000) :
    Calls Tryz.prog 10 #[.agg (shA st p k a n c), .int .i64 stamp, .slice ha hm hc] w fun e w' => FoldEnd st p k l stamp cs w w' e := by
  by_cases hG : Good st p k l
  · by_cases hA : stamp ≤ st ∨ 2147483647 < stamp
    · exact fold_arg st p k a n c l stamp ha hm hc cs w hg hs hn hok hl hcn hG hA
    · exact fold_good st p k a n c l stamp ha hm hc cs w hg hs hn hok hl hcn hh hhm hm9 hG hA
  · exact fold_bad st p k a n c l stamp ha hm hc cs w hg hs hn hok hl hcn hG
end Go.Proofs.YtaieijbdknfcjaaGreatDoor
namespace Go.Proofs.YtaieijbdknfcjaaGreatDoor
open Go.RowKit Classical
set_option linter.unusedVariables false
set_option linter.unusedSimpArgs false

theorem Hs.at2 {w : World} {b o : Nat} {l : List ChT} (h : Hs w (some ⟨b, o, none⟩) l) {i : Nat} {s : ChT} (hi : l[i]? = some s) : w.cell? ⟨b, o + i * 4, none⟩ = some (.int .i64 s.k) ∧ w.cell? ⟨b, o + i * 4 + 1, none⟩ = some (.string s.p) ∧ w.cell? ⟨b, o + i * 4 + 2, none⟩ = some (.string s.d) ∧ w.cell? ⟨b, o + i * 4 + 3, none⟩ = some (.int .i64 s.v) := by
  obtain ⟨b', o', he, _, x0, x1, x2, x3⟩ := h.at hi
  cases he
  exact ⟨x0, x1, x2, x3⟩
theorem box_cellG {w : World} {b : Nat} {st k : Int} {p : ByteArray} {la : Option Addr} {L lc : Nat} (h : w.heap[b]? = some (.cells (shA st p k la L lc) 24 (0, 0))) (o : Nat) (q d : ByteArray) (h0 : w.cell? ⟨b, o, none⟩ = some (.string q)) (h1 : w.cell? ⟨b, o + 1, none⟩ = some (.string d)) : False := by
  obtain ⟨a0, a1, a2, a3⟩ := cells_4 h
  have hc : ∀ i, 4 ≤ i → w.cell? ⟨b, i, none⟩ = none := fun i hi => by
    simp only [World.cell?, h]
    exact Array.getElem?_eq_none (by show 4 ≤ i; exact hi)
  rcases (show o = 0 ∨ o = 1 ∨ o = 2 ∨ o = 3 ∨ 4 ≤ o by omega) with rfl | rfl | rfl | rfl | h4
  · rw [a0] at h0; cases h0
  · rw [a2] at h1; cases h1
  · rw [a2] at h0; cases h0
  · rw [a3] at h0; cases h0
  · rw [hc o h4] at h0; cases h0
theorem ss_boxG {w : World} {b : Nat} {st k : Int} {p : ByteArray} {la la' : Option Addr} {L lc : Nat} {l : List SeenT} (hs : Ss w la' l) (h : w.heap[b]? = some (.cells (shA st p k la L lc) 24 (0, 0))) {w' : World} (hk : ∀ j, j ≠ b → w'.heap[j]? = w.heap[j]?) (hz : w.heap.size ≤ w'.heap.size) : Ss w' la' l := by
  cases hl : l with
  | nil => exact .inl rfl
  | cons s r =>
    have h0 : l[0]? = some s := by rw [hl]; rfl
    rw [← hl]
    rcases hs with h1 | ⟨b', o, ha, hlt, hc⟩
    · rw [h1] at hl; cases hl
    · have hne : b' ≠ b := fun e => by
        subst e
        exact box_cellG h _ s.p s.d (hc 0 s h0 0 _ rfl) (hc 0 s h0 1 _ rfl)
      refine .inr ⟨b', o, ha, Nat.lt_of_lt_of_le hlt hz, fun i t hi j x hx => ?_⟩
      rw [World.cell?_of_block (w := w) (hk b' hne)]
      exact hc i t hi j x hx
set_option maxHeartbeats 12800000 in
set_option maxRecDepth 100000 in
theorem rfold_bad (st : Int) (p : ByteArray) (k : Int) (a : Option Addr) (n c : Nat) (l : List SeenT) (stamp : Int) (ha : Option Addr) (hm hc : Nat) (cs : List ChT) (w : World) (hs : Ss w a l) (hn : l.length = n) (hok : ∀ s ∈ l, s.p.size ≤ maxLen) (hl : n ≤ maxLen) (hG : ¬ Good st p k l) :
    Calls Tryz.prog 13 #[.agg (shA st p k a n c), .int .i64 stamp, .slice ha hm hc] w fun e w' => FoldEnd st p k l stamp cs w w' e := by
  have H0 : Hid (FB w _ (shA st p k a n c) shZ) := FB.start w _ _
  have HC : Hid (∀ w', Below w.heap.size w w' → Calls Tryz.prog 22 #[.agg (shA st p k a n c)] w' fun e w'' => e = .returned (.int .i64 51) ∧ Below w'.heap.size w' w'') := fun w' hb => by
    have := refCheck_any st p k a c l w' (hs.below hb) hok (by rw [hn]; exact hl)
    rw [hn, ← chk_eq, chk_bad hG] at this
    exact this
  have HR : Hid (FoldRes st p k l stamp cs 51 0 ⟨#[]⟩ 0 []) := foldRes_bad hG
  clear hs hok hl hG
  obtain ⟨a0, a1, a2, a3⟩ := cells_4 H0.out.pa
  go_enter Tryz.func13, Tryz.ntmps13
  go_wp2_with fail
  refine (HC.out _ H0.out.low).mono ?_
  rintro e w1 ⟨rfl, hb1⟩
  have H1 : Hid (FB w w1 (shA st p k a n c) shZ) := H0.out.below hb1
  clear hb1 a0 a1 a2 a3
  obtain ⟨a0, a1, a2, a3⟩ := cells_4 H1.out.pa
  obtain ⟨r0, r1, r2, r3⟩ := cells_4 H1.out.pr
  have f4 := free_4 H1.out.pr
  go_wp2_with fail
  exact bodyPost_ret (results_cell_tmp rfl _ _ (w.heap.size + 1) 24 _ (0, 0) _ _ rfl rfl (fill_4 H1.out.pr) Tryz.underlying24 rfl (by kernel_rfl)) rfl ⟨0, ⟨#[]⟩, 0, none, 0, [], 51, rfl, .inl rfl, HR.out, by simp, fillB_4 H1.out.low (by omega)⟩
set_option maxHeartbeats 12800000 in
set_option maxRecDepth 100000 in
theorem rfold_arg1 (st : Int) (p : ByteArray) (k : Int) (a : Option Addr) (n c : Nat) (l : List SeenT) (stamp : Int) (ha : Option Addr) (hm hc : Nat) (cs : List ChT) (w : World) (hs : Ss w a l) (hn : l.length = n) (hok : ∀ s ∈ l, s.p.size ≤ maxLen) (hl : n ≤ maxLen) (hG : Good st p k l) (h1 : stamp ≤ st) :
    Calls Tryz.prog 13 #[.agg (shA st p k a n c), .int .i64 stamp, .slice ha hm hc] w fun e w' => FoldEnd st p k l stamp cs w w' e := by
  have H0 : Hid (FB w _ (shA st p k a n c) shZ) := FB.start w _ _
  have HC : Hid (∀ w', Below w.heap.size w w' → Calls Tryz.prog 22 #[.agg (shA st p k a n c)] w' fun e w'' => e = .returned (.int .i64 0) ∧ Below w'.heap.size w' w'') := fun w' hb => by
    have := refCheck_any st p k a c l w' (hs.below hb) hok (by rw [hn]; exact hl)
    rw [hn, ← chk_eq, chk_good hG] at this
    exact this
  have HR : Hid (FoldRes st p k l stamp cs 1 0 ⟨#[]⟩ 0 []) := foldRes_arg hG (.inl h1)
  clear hs hok hl hG
  obtain ⟨a0, a1, a2, a3⟩ := cells_4 H0.out.pa
  go_enter Tryz.func13, Tryz.ntmps13
  go_wp2_with fail
  refine (HC.out _ H0.out.low).mono ?_
  rintro e w1 ⟨rfl, hb1⟩
  have H1 : Hid (FB w w1 (shA st p k a n c) shZ) := H0.out.below hb1
  clear hb1 a0 a1 a2 a3
  obtain ⟨a0, a1, a2, a3⟩ := cells_4 H1.out.pa
  obtain ⟨r0, r1, r2, r3⟩ := cells_4 H1.out.pr
  have f4 := free_4 H1.out.pr
  go_wp2_with fail
  exact bodyPost_ret (results_cell_tmp rfl _ _ (w.heap.size + 1) 24 _ (0, 0) _ _ rfl rfl (fill_4 H1.out.pr) Tryz.underlying24 rfl (by kernel_rfl)) rfl ⟨0, ⟨#[]⟩, 0, none, 0, [], 1, rfl, .inl rfl, HR.out, by simp, fillB_4 H1.out.low (by omega)⟩
set_option maxHeartbeats 12800000 in
set_option maxRecDepth 100000 in
theorem rfold_arg2 (st : Int) (p : ByteArray) (k : Int) (a : Option Addr) (n c : Nat) (l : List SeenT) (stamp : Int) (ha : Option Addr) (hm hc : Nat) (cs : List ChT) (w : World) (hs : Ss w a l) (hn : l.length = n) (hok : ∀ s ∈ l, s.p.size ≤ maxLen) (hl : n ≤ maxLen) (hG : Good st p k l) (h1 : ¬ stamp ≤ st) (h2 : 2147483647 < stamp) :
    Calls Tryz.prog 13 #[.agg (shA st p k a n c), .int .i64 stamp, .slice ha hm hc] w fun e w' => FoldEnd st p k l stamp cs w w' e := by
  have H0 : Hid (FB w _ (shA st p k a n c) shZ) := FB.start w _ _
  have HC : Hid (∀ w', Below w.heap.size w w' → Calls Tryz.prog 22 #[.agg (shA st p k a n c)] w' fun e w'' => e = .returned (.int .i64 0) ∧ Below w'.heap.size w' w'') := fun w' hb => by
    have := refCheck_any st p k a c l w' (hs.below hb) hok (by rw [hn]; exact hl)
    rw [hn, ← chk_eq, chk_good hG] at this
    exact this
  have HR : Hid (FoldRes st p k l stamp cs 1 0 ⟨#[]⟩ 0 []) := foldRes_arg hG (.inr h2)
  clear hs hok hl hG
  obtain ⟨a0, a1, a2, a3⟩ := cells_4 H0.out.pa
  go_enter Tryz.func13, Tryz.ntmps13
  go_wp2_with fail
  refine (HC.out _ H0.out.low).mono ?_
  rintro e w1 ⟨rfl, hb1⟩
  have H1 : Hid (FB w w1 (shA st p k a n c) shZ) := H0.out.below hb1
  clear hb1 a0 a1 a2 a3
  obtain ⟨a0, a1, a2, a3⟩ := cells_4 H1.out.pa
  obtain ⟨r0, r1, r2, r3⟩ := cells_4 H1.out.pr
  have f4 := free_4 H1.out.pr
  go_wp2_with fail
  exact bodyPost_ret (results_cell_tmp rfl _ _ (w.heap.size + 1) 24 _ (0, 0) _ _ rfl rfl (fill_4 H1.out.pr) Tryz.underlying24 rfl (by kernel_rfl)) rfl ⟨0, ⟨#[]⟩, 0, none, 0, [], 1, rfl, .inl rfl, HR.out, by simp, fillB_4 H1.out.low (by omega)⟩
set_option maxHeartbeats 12800000 in
set_option maxRecDepth 100000 in
theorem rfold_good (st : Int) (p : ByteArray) (k : Int) (a : Option Addr) (n c : Nat) (l : List SeenT) (stamp : Int) (ha : Option Addr) (hm hc : Nat) (cs : List ChT) (w : World) (hs : Ss w a l) (hn : l.length = n) (hok : ∀ s ∈ l, s.p.size ≤ maxLen) (hl : n ≤ maxLen) (hca : a = none → c = 0) (hh : Hs w ha cs) (hhm : cs.length = hm) (hm9 : hm ≤ 1000) (hG : Good st p k l) (hA : ¬ (stamp ≤ st ∨ 2147483647 < stamp)) :
    Calls Tryz.prog 13 #[.agg (shA st p k a n c), .int .i64 stamp, .slice ha hm hc] w fun e w' => FoldEnd st p k l stamp cs w w' e := by
  have H0 : Hid (FB w _ (shA st p k a n c) shZ) := FB.start w _ _
  have HC : Hid (∀ w', Below w.heap.size w w' → Calls Tryz.prog 22 #[.agg (shA st p k a n c)] w' fun e w'' => e = .returned (.int .i64 0) ∧ Below w'.heap.size w' w'') := fun w' hb => by
    have := refCheck_any st p k a c l w' (hs.below hb) hok (by rw [hn]; exact hl)
    rw [hn, ← chk_eq, chk_good hG] at this
    exact this
  have HG : Hid (Good st p k l) := hG
  have HA : Hid (¬ (stamp ≤ st ∨ 2147483647 < stamp)) := hA
  have HI : Hid (InvF l) := (inv_good hG).1
  have HS : Hid (Ss w a l) := hs
  have HH : Hid (Hs w ha cs) := hh
  have HM : Hid (cs.length = hm) := hhm
  have HN : Hid (l.length = n) := hn
  have HCA : Hid (a = none → c = 0) := hca
  have hn64 : n ≤ 64 := by rw [← hn]; exact (inv_good hG).1.len
  have h1 : ¬ stamp ≤ st := fun h => hA (.inl h)
  have h2 : ¬ 2147483647 < stamp := fun h => hA (.inr h)
  clear hs hok hl hG hA hh hhm hn hca
  obtain ⟨a0, a1, a2, a3⟩ := cells_4 H0.out.pa
  go_enter Tryz.func13, Tryz.ntmps13
  go_wp2_with fail
  refine (HC.out _ H0.out.low).mono ?_
  rintro e w1 ⟨rfl, hb1⟩
  have H1 : Hid (FB w w1 (shA st p k a n c) shZ) := H0.out.below hb1
  clear hb1 a0 a1 a2 a3
  obtain ⟨a0, a1, a2, a3⟩ := cells_4 H1.out.pa
  go_wp2_with (first
    | (at_builtin; refine wpList_appS rfl _ _ rfl w1.heap.size (.slice none 0 0) 0 [] rfl (World.ownsRow_nil _ _ _ _) a n c l rfl HN.out.symm (HS.out.below H1.out.low) HCA.out (by rw [HN.out]; omega) (Nat.le_refl _) ?_
       intro v2 w2 ho2 hg2 hat2
       rw [HN.out, Nat.zero_add, List.nil_append] at ho2
       have HL2 : Hid (Below w1.heap.size w1 w2) := (Below.refl _ _).grown hg2 (Nat.le_refl _) (fun j hj => by cases hj)
       obtain ⟨a2', cap2, rfl⟩ := owns_formR ho2
       have HS2 : Hid (Ss w2 a2' l) := ss_of_row ho2
       clear ho2 hg2 hat2)
    | fail)
  go_loopw [8, 9] (fun v i wr => ∃ (q : Nat) (a' : Option Addr) (cap' : Nat) (m : List SeenT), v = .slice a' m.length cap' ∧ i = .int .i64 q ∧ q ≤ hm ∧ Hid (Ss wr a' m) ∧ Hid (foldF k p l (cs.take q) = some m) ∧ Hid (Below w1.heap.size w1 wr)) (fun _ i _ => hm - (intOf i).toNat)
  case atStart => exact ⟨0, a2', cap2, l, by rw [HN.out], rfl, Nat.zero_le _, HS2, (by show foldF k p l (cs.take 0) = some l; rfl), HL2⟩
  case round =>
    obtain ⟨q, a5, cap5, m, rfl, rfl, hq, HSm, HF, HL⟩ := hrel
    obtain ⟨mn, hmn⟩ : ∃ mn, m.length = mn := ⟨_, rfl⟩
    have HMN : Hid (m.length = mn) := hmn
    rw [hmn]
    clear hmn
    have HIm : Hid (InvF m) := inv_fold HI.out HF.out
    have HR : Hid (FB w wr (shA st p k a n c) shZ) := H1.out.below HL.out
    clear a0 a1 a2 a3
    obtain ⟨a0, a1, a2, a3⟩ := cells_4 HR.out.pa
    by_cases hlt : q < hm
    · have hlt' : (q : Int) < (hm : Int) := by omega
      obtain ⟨x, hx⟩ : ∃ x, cs[q]? = some x := ⟨cs[q]'(by rw [HM.out]; exact hlt), List.getElem?_eq_getElem _⟩
      obtain ⟨b, o, rfl, hb, x0, x1, x2, x3⟩ := (HH.out.below HR.out.low).at hx
      have HX : Hid (cs[q]? = some x) := hx
      have HPL : Hid (∀ w', Ss w' a5 m → Calls Tryz.prog 23 #[.agg (shA st p k a n c), .slice a5 mn cap5, .agg (chA x)] w' fun e w'' => ChgEnd k p m x w' e w'') := fun w' hs' => refChange_any st p k a n c a5 mn cap5 m x w' hs' HMN.out HIm.out
      have HSTn : Hid (stepF k p m x = none → foldF k p l cs = none) := fun h => foldF_none (q := q + 1) (by rw [take_snocC HX.out, foldF_snoc, HF.out]; exact h)
      have HSTs : Hid (∀ m', stepF k p m x = some m' → foldF k p l (cs.take (q + 1)) = some m') := fun m' h => by rw [take_snocC HX.out, foldF_snoc, HF.out]; exact h
      clear hx
      cases hst : stepF k p m x with
      | none =>
        have HNO := HSTn.out hst
        have HNO' : Hid (foldF k p l cs = none) := HNO
        have HPn : Hid (∀ w', Ss w' a5 m → Calls Tryz.prog 23 #[.agg (shA st p k a n c), .slice a5 mn cap5, .agg (chA x)] w' fun e w'' => e = .returned (.tuple #[.slice none 0 0, .bool false]) ∧ Below w'.heap.size w' w'') := fun w' hs' => (HPL.out w' hs').mono (fun e w'' h => by
          rcases h with ⟨_, h1, h2⟩ | ⟨m', _, _, h0, _⟩
          · exact ⟨h1, h2⟩
          · rw [hst] at h0; cases h0)
        clear hst HNO
        go_wp2_with fail
        go_region_held3 (fun w' => w'.cell? ⟨w.heap.size, 0, none⟩ = some (.int .i64 st) ∧ w'.cell? ⟨w.heap.size, 1, none⟩ = some (.string p) ∧ w'.cell? ⟨w.heap.size, 2, none⟩ = some (.int .i64 k) ∧ w'.cell? ⟨w.heap.size, 3, none⟩ = some (.slice a n c) ∧ w'.cell? ⟨b, o + q * 4, none⟩ = some (.int .i64 x.k) ∧ w'.cell? ⟨b, o + q * 4 + 1, none⟩ = some (.string x.p) ∧ w'.cell? ⟨b, o + q * 4 + 2, none⟩ = some (.string x.d) ∧ w'.cell? ⟨b, o + q * 4 + 3, none⟩ = some (.int .i64 x.v)) (first | exact ⟨a0, a1, a2, a3, x0, x1, x2, x3⟩ | go_keep)
          (first
          | (go_at_call 23; refine (HPn.out _ (HSm.out.below (below_drew (Below.refl _ _)))).mono ?_; rintro e w6 ⟨rfl, hb6⟩
             have H6 : Hid (FB w w6 (shA st p k a n c) shZ) := HR.out.below (of_drew hb6)
             have X6 : Hid _ := (HH.out.below H6.out.low).at2 HX.out
             clear hb6 a0 a1 a2 a3 x0 x1 x2 x3
             obtain ⟨a0, a1, a2, a3⟩ := cells_4 H6.out.pa
             obtain ⟨x0, x1, x2, x3⟩ := X6.out
             obtain ⟨r0, r1, r2, r3⟩ := cells_4 H6.out.pr
             have f4 := free_4 H6.out.pr)
          | fail)
        go_wp2_with fail
        exact bodyPost_ret (results_cell_tmp rfl _ _ (w.heap.size + 1) 24 _ (0, 0) _ _ rfl rfl (fill_4 H6.out.pr) Tryz.underlying24 rfl (by kernel_rfl)) rfl ⟨0, ⟨#[]⟩, 0, none, 0, [], 50, rfl, .inl rfl, foldRes_no HG.out HA.out HNO'.out, by simp, fillB_4 H6.out.low (by omega)⟩
      | some m' =>
        have HF5 : Hid (foldF k p l (cs.take (q + 1)) = some m') := HSTs.out m' hst
        have HPs : Hid (∀ w', Ss w' a5 m → Calls Tryz.prog 23 #[.agg (shA st p k a n c), .slice a5 mn cap5, .agg (chA x)] w' fun e w'' => ∃ a6 cap6, e = .returned (.tuple #[.slice a6 m'.length cap6, .bool true]) ∧ Ss w'' a6 m' ∧ Below w'.heap.size w' w'') := fun w' hs' => (HPL.out w' hs').mono (fun e w'' h => by
          rcases h with ⟨h0, _⟩ | ⟨m9, a9, cap9, h0, h1, h2, h3⟩
          · rw [hst] at h0; cases h0
          · rw [hst] at h0; cases h0
            exact ⟨a9, cap9, h1, h2, h3⟩)
        clear hst
        go_wp2_with fail
        go_region_held3 (fun w' => w'.cell? ⟨w.heap.size, 0, none⟩ = some (.int .i64 st) ∧ w'.cell? ⟨w.heap.size, 1, none⟩ = some (.string p) ∧ w'.cell? ⟨w.heap.size, 2, none⟩ = some (.int .i64 k) ∧ w'.cell? ⟨w.heap.size, 3, none⟩ = some (.slice a n c) ∧ w'.cell? ⟨b, o + q * 4, none⟩ = some (.int .i64 x.k) ∧ w'.cell? ⟨b, o + q * 4 + 1, none⟩ = some (.string x.p) ∧ w'.cell? ⟨b, o + q * 4 + 2, none⟩ = some (.string x.d) ∧ w'.cell? ⟨b, o + q * 4 + 3, none⟩ = some (.int .i64 x.v)) (first | exact ⟨a0, a1, a2, a3, x0, x1, x2, x3⟩ | go_keep)
          (first
          | (go_at_call 23; refine (HPs.out _ (HSm.out.below (below_drew (Below.refl _ _)))).mono ?_; rintro e w6 ⟨a6, cap6, rfl, hs6, hb6⟩
             have H6 : Hid (FB w w6 (shA st p k a n c) shZ) := HR.out.below (of_drew hb6)
             have HL6 : Hid (Below w1.heap.size w1 w6) := trans2 HL.out (of_drew hb6)
             have HS6 : Hid (Ss w6 a6 m') := hs6
             have X6 : Hid _ := (HH.out.below H6.out.low).at2 HX.out
             clear hb6 hs6 a0 a1 a2 a3 x0 x1 x2 x3
             obtain ⟨a0, a1, a2, a3⟩ := cells_4 H6.out.pa
             obtain ⟨x0, x1, x2, x3⟩ := X6.out)
          | fail)
        go_wp2_with fail
        go_roundw
        case rel => exact ⟨q + 1, a6, cap6, m', rfl, by go_num, by omega, HS6, HF5, HL6⟩
        case measure => simp [intOf]; omega
    · obtain rfl : q = hm := by omega
      have hge : ¬ (q : Int) < (q : Int) := by omega
      have HF5 : Hid (foldF k p l cs = some m) := by have := HF.out; rw [← HM.out, List.take_length] at this; exact this
      obtain ⟨r0, r1, r2, r3⟩ := cells_4 HR.out.pr
      have f4 := free_4 HR.out.pr
      go_wp2_with fail
      refine bodyPost_ret (results_cell_tmp rfl _ _ (w.heap.size + 1) 24 _ (0, 0) _ _ rfl rfl (fill_4 HR.out.pr) Tryz.underlying24 rfl (by kernel_rfl)) rfl ⟨stamp, p, k, a5, cap5, m, 0, by rw [HMN.out]; rfl, ss_boxG HSm.out HR.out.pr (fun j hj => put4_otherG _ _ _ _ _ _ j hj) (Nat.le_of_eq (put4_sizeG _ _ _ _ _ _).symm), foldRes_ok HG.out HA.out HF5.out, HIm.out.len, fillB_4 HR.out.low (by omega)⟩
theorem refFold_any (st : Int) (p : ByteArray) (k : Int) (a : Option Addr) (n c : Nat) (l : List SeenT) (stamp : Int) (ha : Option Addr) (hm hc : Nat) (cs : List ChT) (w : World) (hs : Ss w a l) (hn : l.length = n) (hok : ∀ s ∈ l, s.p.size ≤ maxLen) (hl : n ≤ maxLen) (hca : a = none → c = 0) (hh : Hs w ha cs) (hhm : cs.length = hm) (hm9 : hm ≤ 1000) :
    Calls Tryz.prog 13 #[.agg (shA st p k a n c), .int .i64 stamp, .slice ha hm hc] w fun e w' => FoldEnd st p k l stamp cs w w' e := by
  by_cases hG : Good st p k l
  · by_cases h1 : stamp ≤ st
    · exact rfold_arg1 st p k a n c l stamp ha hm hc cs w hs hn hok hl hG h1
    · by_cases h2 : 2147483647 < stamp
      · exact rfold_arg2 st p k a n c l stamp ha hm hc cs w hs hn hok hl hG h1 h2
      · exact rfold_good st p k a n c l stamp ha hm hc cs w hs hn hok hl hca hh hhm hm9 hG (by rintro (h | h); exact h1 h; exact h2 h)
  · exact rfold_bad st p k a n c l stamp ha hm hc cs w hs hn hok hl hG
end Go.Proofs.YtaieijbdknfcjaaGreatDoor
