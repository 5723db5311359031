import Derived.Test.YtaieijbdknfcjaaGreatDoorGLaw1
import Derived.Test.YtaieijbdknfcjaaGreatDoorGRefFold
namespace Go.Proofs.YtaieijbdknfcjaaGreatDoor
open Go.RowKit Classical
set_option linter.unusedVariables false
set_option linter.unusedSimpArgs false

def turnC (c : ChT) : ChT := ⟨c.k, c.p, if c.k = 2 then pT else c.d, wrap64 (c.v.tdiv 2)⟩
theorem set_c3 (A B : List ChT) (o : ChT) (q : Nat) (hq : A.length = q) (M : List Value) (v : Int) : (chCs (A ++ o :: B) ++ M).set (q * 4 + 3) (.int .i64 v) = chCs (A ++ ⟨o.k, o.p, o.d, v⟩ :: B) ++ M := by
  have hl : (chCs A).length = q * 4 := by rw [chCs_len, hq]
  have e : ∀ o : ChT, chCs (A ++ o :: B) ++ M = chCs A ++ (.int .i64 o.k :: .string o.p :: .string o.d :: .int .i64 o.v :: (chCs B ++ M)) := fun o => by simp [chCs]
  rw [e, e, List.set_append_right _ _ (by omega), hl, show q * 4 + 3 - q * 4 = 3 by omega]
  rfl
theorem set_c2 (A B : List ChT) (o : ChT) (q : Nat) (hq : A.length = q) (M : List Value) (d : ByteArray) : (chCs (A ++ o :: B) ++ M).set (q * 4 + 2) (.string d) = chCs (A ++ ⟨o.k, o.p, d, o.v⟩ :: B) ++ M := by
  have hl : (chCs A).length = q * 4 := by rw [chCs_len, hq]
  have e : ∀ o : ChT, chCs (A ++ o :: B) ++ M = chCs A ++ (.int .i64 o.k :: .string o.p :: .string o.d :: .int .i64 o.v :: (chCs B ++ M)) := fun o => by simp [chCs]
  rw [e, e, List.set_append_right _ _ (by omega), hl, show q * 4 + 2 - q * 4 = 2 by omega]
  rfl
def upC (l : List ChT) (q : Nat) : List ChT := (l.take q).map turnC ++ l.drop q
theorem upC_zero (l : List ChT) : upC l 0 = l := by simp [upC]
theorem upC_all (l : List ChT) : upC l l.length = l.map turnC := by simp [upC]
theorem upC_form {l : List ChT} {q : Nat} {x : ChT} (h : l[q]? = some x) : upC l q = (l.take q).map turnC ++ x :: l.drop (q + 1) ∧ upC l (q + 1) = (l.take q).map turnC ++ turnC x :: l.drop (q + 1) := by
  obtain ⟨hq, rfl⟩ := List.getElem?_eq_some_iff.1 h
  refine ⟨by unfold upC; rw [List.drop_eq_getElem_cons hq], ?_⟩
  unfold upC
  rw [List.take_add_one, h, Option.toList_some, List.map_append, List.append_assoc]
  rfl
theorem upC_at {l : List ChT} {q : Nat} {x : ChT} (h : l[q]? = some x) : (upC l q)[q]? = some x := by
  have hq := (List.getElem?_eq_some_iff.1 h).1
  rw [(upC_form h).1, List.getElem?_append_right (by simp; omega)]
  simp [Nat.min_eq_left (Nat.le_of_lt hq)]
theorem upC_step2 {l : List ChT} {q : Nat} {x : ChT} (h : l[q]? = some x) (hk : x.k = 2) (M : List Value) : ((chCs (upC l q) ++ M).set (q * 4 + 2) (.string pT)).set (q * 4 + 3) (.int .i64 (wrap64 (x.v.tdiv 2))) = chCs (upC l (q + 1)) ++ M := by
  have hq := (List.getElem?_eq_some_iff.1 h).1
  have hl : ((l.take q).map turnC).length = q := by simp; omega
  rw [(upC_form h).1, (upC_form h).2, set_c2 _ _ _ q hl, set_c3 _ _ _ q hl]
  unfold turnC
  rw [if_pos hk]
theorem upC_step1 {l : List ChT} {q : Nat} {x : ChT} (h : l[q]? = some x) (hk : x.k ≠ 2) (M : List Value) : (chCs (upC l q) ++ M).set (q * 4 + 3) (.int .i64 (wrap64 (x.v.tdiv 2))) = chCs (upC l (q + 1)) ++ M := by
  have hq := (List.getElem?_eq_some_iff.1 h).1
  have hl : ((l.take q).map turnC).length = q := by simp; omega
  rw [(upC_form h).1, (upC_form h).2, set_c3 _ _ _ q hl]
  unfold turnC
  rw [if_neg hk]
set_option maxHeartbeats 6400000 in
set_option maxRecDepth 100000 in
theorem turnedChanges_any (base g cap n : Nat) (l : List ChT) (w : World) (hn : l.length = n) (hr : w.ownsRow base 39 4 (.slice (some ⟨g, 0, none⟩) (n + 1) cap) (n + 1) (chCs l ++ otherT.cells)) (hl : n ≤ 1000) :
    Calls Tryz.prog 8 #[.slice (some ⟨g, 0, none⟩) n cap] w fun e w' => ∃ a c, e = .returned (.slice a n c) ∧ Hs w' a (l.map turnC) ∧ (a = none → c = 0) ∧ (∀ b o, a = some ⟨b, o, none⟩ → w.heap.size ≤ b) ∧ w'.ownsRow base 39 4 (.slice (some ⟨g, 0, none⟩) (n + 1) cap) (n + 1) (chCs (l.map turnC) ++ otherT.cells) ∧ Chg w w' (fun j => j = g) := by
  have HR : Hid _ := hr
  have HN : Hid (l.length = n) := hn
  have HG : Hid (g < w.heap.size) := (hr.lt g rfl).2
  clear hr hn
  go_enter Tryz.func8, Tryz.ntmps8
  go_wp2_with fail
  go_loopw [3] (fun i wr => ∃ q : Nat, i = .int .i64 q ∧ q ≤ n ∧ Hid (wr.ownsRow base 39 4 (.slice (some ⟨g, 0, none⟩) (n + 1) cap) (n + 1) (chCs (upC l q) ++ otherT.cells)) ∧ Hid (Chg w wr (fun j => j = g))) (fun i _ => n - (intOf i).toNat)
  case atStart => exact ⟨0, rfl, Nat.zero_le _, (by show World.ownsRow _ _ _ _ _ _ _; rw [upC_zero]; exact HR.out), Chg.refl _ _⟩
  case round =>
    obtain ⟨q, rfl, hq, HO, HC⟩ := hrel
    by_cases hlt : q < n
    · have hlt' : (q : Int) < (n : Int) := by omega
      obtain ⟨x, hx⟩ : ∃ x, l[q]? = some x := ⟨l[q]'(by rw [HN.out]; exact hlt), List.getElem?_eq_getElem _⟩
      have HX : Hid (l[q]? = some x) := hx
      have hxa := upC_at hx
      have x0 : wr.cell? ⟨g, q * 4, none⟩ = some (.int .i64 x.k) := cell_n HO.out (chCs_at _ q 0 _ _ hxa rfl _)
      have x2 := cell_n HO.out (chCs_at _ q 2 _ _ hxa rfl _)
      have x3 := cell_n HO.out (chCs_at _ q 3 _ _ hxa rfl _)
      have fz := HO.out.frozenAt
      clear hx hxa
      by_cases hk : x.k = 2
      · have HK : Hid (x.k = 2) := hk
        rw [hk] at x0
        clear hk
        go_wp2_with fail
        go_roundw
        case rel =>
          refine ⟨q + 1, by go_num, by omega, ?_, (HC.out.trans (Chg.set _ _ _)).trans (Chg.set _ _ _)⟩
          have := owns_set (k := q * 4 + 3) (owns_set (k := q * 4 + 2) HO.out (.string pT)) (.int .i64 (wrap64 (x.v.tdiv 2)))
          rw [upC_step2 HX.out HK.out] at this
          exact this
        case measure => simp [intOf]; omega
      · have HK : Hid (x.k ≠ 2) := hk
        go_wp2_with fail
        go_roundw
        case rel =>
          refine ⟨q + 1, by go_num, by omega, ?_, HC.out.trans (Chg.set _ _ _)⟩
          have := owns_set (k := q * 4 + 3) HO.out (.int .i64 (wrap64 (x.v.tdiv 2)))
          rw [upC_step1 HX.out HK.out] at this
          exact this
        case measure => simp [intOf]; omega
    · obtain rfl : q = n := by omega
      have hge : ¬ (q : Int) < (q : Int) := by omega
      have HO9 : Hid (wr.ownsRow base 39 4 (.slice (some ⟨g, 0, none⟩) (q + 1) cap) (q + 1) (chCs (l.map turnC) ++ otherT.cells)) := by have := HO.out; rw [show upC l q = l.map turnC by rw [← HN.out]; exact upC_all l] at this; exact this
      have HML : Hid (q = (l.map turnC).length) := by show _ = _; rw [List.length_map, HN.out]
      go_wp2_with (first
        | (at_builtin; refine wpList_appC rfl _ _ rfl wr.heap.size (.slice none 0 0) 0 [] rfl (World.ownsRow_nil _ _ _ _) (some ⟨g, 0, none⟩) q cap (l.map turnC) rfl HML.out (hs_of_owns HO9.out) (fun h => by cases h) (by rw [← HML.out]; omega) (Nat.le_refl _) ?_
           intro v1 w1 ho1 hg1 hat1
           rw [← HML.out, Nat.zero_add, List.nil_append] at ho1
           have HB1 : Hid (Below wr.heap.size wr w1) := (Below.refl _ _).grown hg1 (Nat.le_refl _) (fun j hj => by cases hj)
           obtain ⟨a9, c9, rfl, hn9⟩ := owns_form ho1
           have HO1 : Hid (w1.ownsRow wr.heap.size 39 4 (.slice a9 q c9) q (chCs (l.map turnC))) := ho1
           have HN9 : Hid (a9 = none → c9 = 0) := hn9
           clear ho1 hg1 hat1 hn9)
        | fail)
      go_ret
      refine ⟨a9, c9, rfl, hs_of_row HO1.out, HN9.out, fun b o hb => ?_, owns_below HO9.out HB1.out, HC.out.trans ⟨HB1.out.os, HB1.out.tape, HB1.out.output, HB1.out.size, fun k hk _ => HB1.out.block k hk⟩⟩
      subst hb
      rcases HO1.out.2 with ⟨h0, _⟩ | ⟨g9, cap9, cur9, hv9, hB9, _⟩
      · cases h0
      · cases hv9
        have := HC.out.size
        omega
end Go.Proofs.YtaieijbdknfcjaaGreatDoor
namespace Go.Proofs.YtaieijbdknfcjaaGreatDoor
open Go.RowKit Classical
set_option linter.unusedVariables false
set_option linter.unusedSimpArgs false

theorem num_any (e0 : Int) (w : World) : Calls Tryz.prog 14 #[.int .i64 e0] w fun e w' => e = .returned (.int .i64 e0) ∧ w' = w := by
  go_enter Tryz.func14, Tryz.ntmps14
  go_wp2_with fail
  go_ret
  exact ⟨rfl, rfl⟩
theorem alike_same (st : Int) (p : ByteArray) (k : Int) (la lb : Option Addr) (L lc ld : Nat) (l : List SeenT) (w : World) (hL : l.length = L) (hs : Ss w la l) (ht : Ss w lb l) (hm : L ≤ maxLen) :
    Calls Tryz.prog 15 #[.agg (shA st p k la L lc), .agg (shA st p k lb L ld)] w fun e w' => e = .returned (.bool true) ∧ Below w.heap.size w w' := by
  subst hL
  exact (alike_any ⟨st, p, k, la, lc, l⟩ ⟨st, p, k, lb, ld, l⟩ w hs ht hm rfl).mono (fun e w' h => ⟨by rw [h.1]; simp, h.2⟩)
/-- Two shots by value, in a frame. -/
structure TwoIn (w W : World) (A B : Array Value) : Prop where
  pa : W.heap[w.heap.size]? = some (.cells A 24 (0, 0))
  pb : W.heap[w.heap.size + 1]? = some (.cells B 24 (0, 0))
  low : Below w.heap.size w W
theorem TwoIn.start (w : World) (A B : Array Value) : TwoIn w ((w.alloc (.cells A 24)).alloc (.cells B 24)) A B := ⟨new_old (heap_alloc_new _ _) _, heap_new' (by simp), ((Below.refl _ _).alloc (Nat.le_refl _) _).alloc (by simp) _⟩
theorem TwoIn.below {w W W' : World} {A B : Array Value} (h : TwoIn w W A B) (hb : Below W.heap.size W W') : TwoIn w W' A B := ⟨kept_block hb h.pa, kept_block hb h.pb, trans2 h.low hb⟩
/-- A shot in a box. -/
structure BX (w : World) (b : Nat) (st : Int) (p : ByteArray) (k : Int) (la : Option Addr) (L lc : Nat) (l : List SeenT) : Prop where
  box : w.heap[b]? = some (.cells (shA st p k la L lc) 24 (0, 0))
  ss : Ss w la l
theorem BX.below {w w' : World} {b : Nat} {st : Int} {p : ByteArray} {k : Int} {la : Option Addr} {L lc : Nat} {l : List SeenT} (h : BX w b st p k la L lc l) (hb : Below w.heap.size w w') : BX w' b st p k la L lc l := ⟨kept_block hb h.box, h.ss.below hb⟩
set_option maxHeartbeats 6400000 in
set_option maxRecDepth 100000 in
theorem folds_any (base g cap n : Nat) (st : Int) (p : ByteArray) (k : Int) (l : List SeenT) (a : Option Addr) (c : Nat) (stamp : Int) (gh caph hm : Nat) (cs : List ChT) (ha : Option Addr) (hc : Nat) (w : World) (hn : l.length = n) (hg : Ground w) (hr : w.ownsRow base 36 3 (.slice (some ⟨g, 0, none⟩) (n + 1) cap) (n + 1) (seCs l ++ markT.cells)) (hs : Ss w a l) (hl : n ≤ 1000) (hok : ∀ s ∈ l, s.p.size ≤ maxLen) (hca : a = none → c = 0)
    (hhm : cs.length = hm) (hrh : w.ownsRow base 39 4 (.slice (some ⟨gh, 0, none⟩) (hm + 1) caph) (hm + 1) (chCs cs ++ otherT.cells)) (hh : Hs w ha cs) (hm9 : hm ≤ 1000) :
    Calls Tryz.prog 7 #[.agg (shA st p k (some ⟨g, 0, none⟩) n cap), .agg (shA st p k a n c), .int .i64 stamp, .slice (some ⟨gh, 0, none⟩) hm caph, .slice ha hm hc] w fun e w' => e = .returned (.bool true) ∧ Below w.heap.size w w' := by
  have hcap := owns_cap hr
  have hml : n ≤ maxLen := by unfold maxLen; omega
  have HF : Hid (∀ w', Below w.heap.size w w' → Calls Tryz.prog 10 #[.agg (shA st p k (some ⟨g, 0, none⟩) n cap), .int .i64 stamp, .slice (some ⟨gh, 0, none⟩) hm caph] w' fun e w'' => FoldEnd st p k l stamp cs w' w'' e) := fun w' hb => fold_any st p k _ n cap l stamp _ hm caph cs w' (hg.below hb) ((ss_of_owns hr).below hb) hn hok hml (by omega) ((hs_of_owns hrh).below hb) hhm hm9
  have HR : Hid (∀ w', Below w.heap.size w w' → Calls Tryz.prog 13 #[.agg (shA st p k a n c), .int .i64 stamp, .slice ha hm hc] w' fun e w'' => FoldEnd st p k l stamp cs w' w'' e) := fun w' hb => refFold_any st p k a n c l stamp ha hm hc cs w' (hs.below hb) hn hok hml hca (hh.below hb) hhm hm9
  have HUN : Hid (∀ w', Below w.heap.size w w' → Calls Tryz.prog 16 #[.agg (shA st p k (some ⟨g, 0, none⟩) n cap), .agg (shA st p k a n c)] w' fun e w'' => e = .returned (.bool true) ∧ Below w'.heap.size w' w'') := fun w' hb => by
    subst hn
    exact untouched_any base g cap st p k l a c w' (owns_below hr hb) (hs.below hb) hl
  have HUC : Hid (∀ w', Below w.heap.size w w' → Calls Tryz.prog 17 #[.slice (some ⟨gh, 0, none⟩) hm caph, .slice ha hm hc] w' fun e w'' => e = .returned (.bool true) ∧ Below w'.heap.size w' w'') := fun w' hb => untouchedChanges_any base gh caph hm cs ha hc w' hhm (owns_below hrh hb) (hh.below hb) hm9
  have H0 : Hid (TwoIn w _ (shA st p k (some ⟨g, 0, none⟩) n cap) (shA st p k a n c)) := TwoIn.start w (shA st p k (some ⟨g, 0, none⟩) n cap) (shA st p k a n c)
  clear hr hs hg hok hml hn hca hhm hrh hh
  obtain ⟨a0, a1, a2, a3⟩ := cells_4 H0.out.pa
  go_enter Tryz.func7, Tryz.ntmps7
  go_wp2_with fail
  refine (HF.out _ H0.out.low).mono ?_
  rintro e w1 ⟨st1, p1, k1, la1, lc1, l1, code1, rfl, hs1, hr1, hz1, hb1⟩
  obtain ⟨L, hL⟩ : ∃ L, l1.length = L := ⟨_, rfl⟩
  rw [hL]
  have HL : Hid (l1.length = L) := hL
  have HR1 : Hid (FoldRes st p k l stamp cs code1 st1 p1 k1 l1) := hr1
  have HLM : Hid (L ≤ maxLen) := by show _ ≤ _; rw [← hL]; unfold maxLen; omega
  have H1 : Hid (TwoIn w (w1.alloc (.cells (shA st1 p1 k1 la1 L lc1) 24)) (shA st p k (some ⟨g, 0, none⟩) n cap) (shA st p k a n c)) := (H0.out.below hb1).below ((Below.refl _ _).alloc (Nat.le_refl _) _)
  have HX1 : Hid (BX (w1.alloc (.cells (shA st1 p1 k1 la1 L lc1) 24)) w1.heap.size st1 p1 k1 la1 L lc1 l1) := ⟨heap_alloc_new _ _, hs1.below ((Below.refl _ _).alloc (Nat.le_refl _) _)⟩
  clear hL hs1 hr1 hz1 hb1 a0 a1 a2 a3
  obtain ⟨b0, b1, b2, b3⟩ := cells_4 H1.out.pb
  go_wp2_with fail
  refine (HR.out _ H1.out.low).mono ?_
  rintro e w2 ⟨st2, p2, k2, la2, lc2, l2, code2, rfl, hs2, hr2, hz2, hb2⟩
  obtain ⟨rfl, rfl, rfl, rfl, rfl⟩ := HR1.out.one hr2
  rw [HL.out]
  have H2 : Hid (TwoIn w (w2.alloc (.cells (shA st1 p1 k1 la2 L lc2) 24)) (shA st p k (some ⟨g, 0, none⟩) n cap) (shA st p k a n c)) := (H1.out.below hb2).below ((Below.refl _ _).alloc (Nat.le_refl _) _)
  have HX1' : Hid (BX (w2.alloc (.cells (shA st1 p1 k1 la2 L lc2) 24)) w1.heap.size st1 p1 k1 la1 L lc1 l1) := (HX1.out.below hb2).below ((Below.refl _ _).alloc (Nat.le_refl _) _)
  have HX2 : Hid (BX (w2.alloc (.cells (shA st1 p1 k1 la2 L lc2) 24)) w2.heap.size st1 p1 k1 la2 L lc2 l1) := ⟨heap_alloc_new _ _, hs2.below ((Below.refl _ _).alloc (Nat.le_refl _) _)⟩
  clear hs2 hr2 hz2 hb2 b0 b1 b2 b3
  go_wp2_with fail
  refine (num_any _ _).mono ?_
  rintro e w3 ⟨rfl, rfl⟩
  obtain ⟨a0, a1, a2, a3⟩ := cells_4 HX1'.out.box
  obtain ⟨b0, b1, b2, b3⟩ := cells_4 HX2.out.box
  go_wp2_with fail
  clear a0 a1 a2 a3 b0 b1 b2 b3
  refine (alike_same st1 p1 k1 la1 la2 L lc1 lc2 l1 _ HL.out HX1'.out.ss HX2.out.ss HLM.out).mono ?_
  rintro e w3 ⟨rfl, hb3⟩
  have H3 : Hid (TwoIn w w3 (shA st p k (some ⟨g, 0, none⟩) n cap) (shA st p k a n c)) := H2.out.below hb3
  clear hb3
  obtain ⟨a0, a1, a2, a3⟩ := cells_4 H3.out.pa
  obtain ⟨b0, b1, b2, b3⟩ := cells_4 H3.out.pb
  go_wp2_with fail
  refine (HUN.out _ H3.out.low).mono ?_
  rintro e w4 ⟨rfl, hb4⟩
  have H4 : Hid (TwoIn w w4 (shA st p k (some ⟨g, 0, none⟩) n cap) (shA st p k a n c)) := H3.out.below hb4
  clear hb4 a0 a1 a2 a3 b0 b1 b2 b3
  go_wp2_with fail
  refine (HUC.out _ H4.out.low).mono ?_
  rintro e w5 ⟨rfl, hb5⟩
  have HB5 : Hid (Below w.heap.size w w5) := trans2 H4.out.low hb5
  clear hb5
  go_wp2_with fail
  go_ret
  exact ⟨rfl, HB5.out⟩
end Go.Proofs.YtaieijbdknfcjaaGreatDoor
