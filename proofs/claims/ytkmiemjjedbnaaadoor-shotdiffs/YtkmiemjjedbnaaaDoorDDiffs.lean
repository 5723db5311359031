/-
  heraldlaw5: diffs.
-/
import Derived.Test.YtkmiemjjedbnaaaDoorDDiff
import Derived.Test.YtkmiemjjedbnaaaDoorDRefAll
import Derived.Test.YtkmiemjjedbnaaaDoorDSame
namespace Go.Proofs.YtkmiemjjedbnaaaDoor
open Go.RowKit Classical
set_option linter.unusedVariables false
set_option linter.unusedSimpArgs false

theorem num_any (e0 : Int) (w : World) : Calls Tryd.prog 14 #[.int .i64 e0] w fun e w' => e = .returned (.int .i64 e0) ∧ w' = w := by
  go_enter Tryd.func14, Tryd.ntmps14
  go_wp2_with fail
  go_ret
  exact ⟨rfl, rfl⟩
/-- Four shots by value, in a frame. -/
structure FourIn (w W : World) (A B C D : Array Value) : Prop where
  pa : W.heap[w.heap.size]? = some (.cells A 24 (0, 0))
  pb : W.heap[w.heap.size + 1]? = some (.cells B 24 (0, 0))
  pc : W.heap[w.heap.size + 2]? = some (.cells C 24 (0, 0))
  pd : W.heap[w.heap.size + 3]? = some (.cells D 24 (0, 0))
  low : Below w.heap.size w W
theorem FourIn.start (w : World) (A B C D : Array Value) : FourIn w ((((w.alloc (.cells A 24)).alloc (.cells B 24)).alloc (.cells C 24)).alloc (.cells D 24)) A B C D :=
  ⟨new_old (new_old (new_old (heap_alloc_new _ _) _) _) _, new_old (new_old (heap_new' (by simp)) _) _, new_old (heap_new' (by simp)) _, heap_new' (by simp), ((((Below.refl _ _).alloc (Nat.le_refl _) _).alloc (by simp) _).alloc (by simp; omega) _).alloc (by simp; omega) _⟩
theorem FourIn.below {w W W' : World} {A B C D : Array Value} (h : FourIn w W A B C D) (hb : Below W.heap.size W W') : FourIn w W' A B C D := ⟨kept_block hb h.pa, kept_block hb h.pb, kept_block hb h.pc, kept_block hb h.pd, trans2 h.low hb⟩
set_option maxHeartbeats 6400000 in
set_option maxRecDepth 100000 in
theorem diffs_any (base g cap n : Nat) (st : Int) (p : ByteArray) (k : Int) (la : List SeenT) (a : Option Addr) (c : Nat) (g' cap' m : Nat) (st' : Int) (p' : ByteArray) (k' : Int) (lb : List SeenT) (b : Option Addr) (d : Nat) (w : World) (hna : la.length = n) (hnb : lb.length = m) (hg : Ground w)
    (hr : w.ownsRow base 38 3 (.slice (some ⟨g, 0, none⟩) (n + 1) cap) (n + 1) (seCs la ++ markT.cells)) (hs : Ss w a la) (hr' : w.ownsRow base 38 3 (.slice (some ⟨g', 0, none⟩) (m + 1) cap') (m + 1) (seCs lb ++ markT.cells)) (hs' : Ss w b lb) (hl : n ≤ 1000) (hl' : m ≤ 1000) (oka : ∀ s ∈ la, s.p.size ≤ maxLen) (okb : ∀ s ∈ lb, s.p.size ≤ maxLen) :
    Calls Tryd.prog 7 #[.agg (shA st p k (some ⟨g, 0, none⟩) n cap), .agg (shA st p k a n c), .agg (shA st' p' k' (some ⟨g', 0, none⟩) m cap'), .agg (shA st' p' k' b m d)] w fun e w' => e = .returned (.bool true) ∧ Below w.heap.size w w' := by
  have hcap := owns_cap hr
  have hcap' := owns_cap hr'
  have HDF : Hid (∀ w', Below w.heap.size w w' → Calls Tryd.prog 9 #[.agg (shA st p k (some ⟨g, 0, none⟩) n cap), .agg (shA st' p' k' (some ⟨g', 0, none⟩) m cap')] w' fun e w'' => ∃ va vc code D, e = .returned (.tuple #[.slice va D.length vc, .int .i64 code]) ∧ DRes st p k la st' p' k' lb code D ∧ Hs w'' va D ∧ Below w'.heap.size w' w'') := fun w' hb => diff_any st p k _ cap n la st' p' k' _ cap' m lb w' (hg.below hb) ((ss_of_owns hr).below hb) ((ss_of_owns hr').below hb) hna hnb (by omega) (by omega) (fun h => by cases h) (fun h => by cases h) hl hl' oka okb
  have HRF : Hid (∀ w', Below w.heap.size w w' → Calls Tryd.prog 13 #[.agg (shA st p k a n c), .agg (shA st' p' k' b m d)] w' fun e w'' => ∃ va vc code D, e = .returned (.tuple #[.slice va D.length vc, .int .i64 code]) ∧ DRes st p k la st' p' k' lb code D ∧ Hs w'' va D ∧ Below w'.heap.size w' w'') := fun w' hb => refDiff_any st p k a c n la st' p' k' b d m lb w' (hs.below hb) (hs'.below hb) hna hnb hl hl' oka okb
  have HUA : Hid (∀ w', Below w.heap.size w w' → Calls Tryd.prog 16 #[.agg (shA st p k (some ⟨g, 0, none⟩) n cap), .agg (shA st p k a n c)] w' fun e w'' => e = .returned (.bool true) ∧ Below w'.heap.size w' w'') := fun w' hb => by
    subst hna
    exact untouched_any base g cap st p k la a c w' (owns_below hr hb) (hs.below hb) hl
  have HUB : Hid (∀ w', Below w.heap.size w w' → Calls Tryd.prog 16 #[.agg (shA st' p' k' (some ⟨g', 0, none⟩) m cap'), .agg (shA st' p' k' b m d)] w' fun e w'' => e = .returned (.bool true) ∧ Below w'.heap.size w' w'') := fun w' hb => by
    subst hnb
    exact untouched_any base g' cap' st' p' k' lb b d w' (owns_below hr' hb) (hs'.below hb) hl'
  obtain ⟨A, hA⟩ : ∃ A, shA st p k (some ⟨g, 0, none⟩) n cap = A := ⟨_, rfl⟩
  have H0 : Hid (FourIn w _ (shA st p k (some ⟨g, 0, none⟩) n cap) (shA st p k a n c) (shA st' p' k' (some ⟨g', 0, none⟩) m cap') (shA st' p' k' b m d)) := FourIn.start w (shA st p k (some ⟨g, 0, none⟩) n cap) (shA st p k a n c) (shA st' p' k' (some ⟨g', 0, none⟩) m cap') (shA st' p' k' b m d)
  clear hr hs hr' hs' hg oka okb hna hnb hA
  obtain ⟨a0, a1, a2, a3⟩ := cells_4 H0.out.pa
  obtain ⟨c0, c1, c2, c3⟩ := cells_4 H0.out.pc
  go_enter Tryd.func7, Tryd.ntmps7
  go_wp2_with fail
  clear a0 a1 a2 a3 c0 c1 c2 c3
  refine (HDF.out _ H0.out.low).mono ?_
  rintro e w1 ⟨va, vc, code, D, rfl, hd1, hh1, hb1⟩
  have H1 : Hid (FourIn w w1 (shA st p k (some ⟨g, 0, none⟩) n cap) (shA st p k a n c) (shA st' p' k' (some ⟨g', 0, none⟩) m cap') (shA st' p' k' b m d)) := H0.out.below hb1
  have HD1 : Hid (DRes st p k la st' p' k' lb code D) := hd1
  have HH1 : Hid (Hs w1 va D) := hh1
  clear hd1 hh1 hb1
  obtain ⟨b0, b1, b2, b3⟩ := cells_4 H1.out.pb
  obtain ⟨d0, d1, d2, d3⟩ := cells_4 H1.out.pd
  go_wp2_with fail
  clear b0 b1 b2 b3 d0 d1 d2 d3
  refine (HRF.out _ H1.out.low).mono ?_
  rintro e w2 ⟨ua, uc, code', D', rfl, hd2, hh2, hb2⟩
  have H2 : Hid (FourIn w w2 (shA st p k (some ⟨g, 0, none⟩) n cap) (shA st p k a n c) (shA st' p' k' (some ⟨g', 0, none⟩) m cap') (shA st' p' k' b m d)) := H1.out.below hb2
  obtain ⟨rfl, rfl⟩ := HD1.out.one hd2
  have HH2 : Hid (Hs w2 ua D) := hh2
  have HH1' : Hid (Hs w2 va D) := HH1.out.below hb2
  have HDL : Hid (D.length ≤ 1000) := HD1.out.len
  clear hd2 hh2 hb2
  go_wp2_with fail
  refine (num_any _ _).mono ?_
  rintro e w3 ⟨rfl, rfl⟩
  have HSB : Hid _ := sameChanges_eq va ua vc uc D.length D w3 HH1'.out HH2.out rfl HDL.out
  go_wp2_with fail
  refine Calls.mono HSB.out ?_
  rintro e w4 ⟨rfl, hb4⟩
  have H4 : Hid (FourIn w w4 (shA st p k (some ⟨g, 0, none⟩) n cap) (shA st p k a n c) (shA st' p' k' (some ⟨g', 0, none⟩) m cap') (shA st' p' k' b m d)) := H2.out.below hb4
  clear hb4
  obtain ⟨a0, a1, a2, a3⟩ := cells_4 H4.out.pa
  obtain ⟨b0, b1, b2, b3⟩ := cells_4 H4.out.pb
  go_wp2_with fail
  refine (HUA.out _ H4.out.low).mono ?_
  rintro e w5 ⟨rfl, hb5⟩
  have H5 : Hid (FourIn w w5 (shA st p k (some ⟨g, 0, none⟩) n cap) (shA st p k a n c) (shA st' p' k' (some ⟨g', 0, none⟩) m cap') (shA st' p' k' b m d)) := H4.out.below hb5
  clear hb5 a0 a1 a2 a3 b0 b1 b2 b3
  obtain ⟨c0, c1, c2, c3⟩ := cells_4 H5.out.pc
  obtain ⟨d0, d1, d2, d3⟩ := cells_4 H5.out.pd
  go_wp2_with fail
  refine (HUB.out _ H5.out.low).mono ?_
  rintro e w6 ⟨rfl, hb6⟩
  have HB6 : Hid (Below w.heap.size w w6) := trans2 H5.out.low hb6
  clear hb6
  go_wp2_with fail
  go_ret
  exact ⟨rfl, HB6.out⟩
end Go.Proofs.YtkmiemjjedbnaaaDoor
