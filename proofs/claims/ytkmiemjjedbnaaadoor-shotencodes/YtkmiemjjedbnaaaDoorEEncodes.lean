/-
  heraldlaw5: encodes.
-/
import Derived.Test.YtkmiemjjedbnaaaDoorERefEnc
import Derived.Test.YtkmiemjjedbnaaaDoorESame
namespace Go.Proofs.YtkmiemjjedbnaaaDoor
open Go.RowKit Classical
set_option linter.unusedVariables false
set_option linter.unusedSimpArgs false

theorem num_any (e0 : Int) (w : World) : Calls Tryd.prog 14 #[.int .i64 e0] w fun e w' => e = .returned (.int .i64 e0) ∧ w' = w := by
  go_enter Tryd.func14, Tryd.ntmps14
  go_wp2_with fail
  go_ret
  exact ⟨rfl, rfl⟩
/-- Two shots by value, in a frame. -/
structure TwoIn (w W : World) (A B : Array Value) : Prop where
  pa : W.heap[w.heap.size]? = some (.cells A 24 (0, 0))
  pb : W.heap[w.heap.size + 1]? = some (.cells B 24 (0, 0))
  low : Below w.heap.size w W
theorem TwoIn.start (w : World) (A B : Array Value) : TwoIn w ((w.alloc (.cells A 24)).alloc (.cells B 24)) A B := ⟨new_old (heap_alloc_new _ _) _, heap_new' (by simp), ((Below.refl _ _).alloc (Nat.le_refl _) _).alloc (by simp) _⟩
theorem TwoIn.below {w W W' : World} {A B : Array Value} (h : TwoIn w W A B) (hb : Below W.heap.size W W') : TwoIn w W' A B := ⟨kept_block hb h.pa, kept_block hb h.pb, trans2 h.low hb⟩
set_option maxHeartbeats 3200000 in
set_option maxRecDepth 100000 in
theorem encodes_any (base g cap n : Nat) (st : Int) (p : ByteArray) (k : Int) (l : List SeenT) (a : Option Addr) (c : Nat) (w : World) (hn : l.length = n) (hg : Ground w) (hr : w.ownsRow base 38 3 (.slice (some ⟨g, 0, none⟩) (n + 1) cap) (n + 1) (seCs l ++ markT.cells)) (hs : Ss w a l) (hl : n ≤ 1000) (hok : ∀ s ∈ l, s.p.size ≤ maxLen) :
    Calls Tryd.prog 10 #[.agg (shA st p k (some ⟨g, 0, none⟩) n cap), .agg (shA st p k a n c)] w fun e w' => e = .returned (.bool true) ∧ Below w.heap.size w w' := by
  have hcap := owns_cap hr
  have hml : n ≤ maxLen := by unfold maxLen; omega
  have HCH : Hid (∀ w', Below w.heap.size w w' → Calls Tryd.prog 11 #[.agg (shA st p k (some ⟨g, 0, none⟩) n cap)] w' fun e w'' => ∃ a' c' zs, e = .returned (.tuple #[.slice a' zs.length c', .int .i64 (chk st p k l)]) ∧ (Good st p k l → zs = shotL st p k l) ∧ (¬ Good st p k l → zs = []) ∧ Bys w'' a' zs ∧ Below w'.heap.size w' w'') := fun w' hb => encode_any st p k _ cap n l w' hn (hg.below hb) ((ss_of_owns hr).below hb) hok hml (by omega)
  have HRC : Hid (∀ w', Below w.heap.size w w' → Calls Tryd.prog 20 #[.agg (shA st p k a n c)] w' fun e w'' => ∃ a' c' zs, e = .returned (.tuple #[.slice a' zs.length c', .int .i64 (chk st p k l)]) ∧ (Good st p k l → zs = shotL st p k l) ∧ (¬ Good st p k l → zs = []) ∧ Bys w'' a' zs ∧ Below w'.heap.size w' w'') := fun w' hb => refEncode_any st p k a c n l w' hn (hs.below hb) hok hml
  have HUN : Hid (∀ w', Below w.heap.size w w' → Calls Tryd.prog 16 #[.agg (shA st p k (some ⟨g, 0, none⟩) n cap), .agg (shA st p k a n c)] w' fun e w'' => e = .returned (.bool true) ∧ Below w'.heap.size w' w'') := fun w' hb => by
    subst hn
    exact untouched_any base g cap st p k l a c w' (owns_below hr hb) (hs.below hb) hl
  have H0 : Hid (TwoIn w _ (shA st p k (some ⟨g, 0, none⟩) n cap) (shA st p k a n c)) := TwoIn.start w (shA st p k (some ⟨g, 0, none⟩) n cap) (shA st p k a n c)
  have HL : Hid ((shotL st p k l).length ≤ maxLen ∨ ¬ Good st p k l) := by
    by_cases h : Good st p k l
    · left
      have e := eok_of_good h
      unfold shotL maxLen
      have h1 := num_le st.toNat (by have := e.st; omega)
      have h2 := text_le p e.p
      have h3 := num_le k.toNat (by have := e.k; omega)
      have h4 := num_le l.length (by have := e.len; omega)
      have h5 := seensL_le l e.each
      have h6 := e.len
      simp only [List.length_append]
      omega
    · exact .inr h
  obtain ⟨ck, hck⟩ : ∃ ck, chk st p k l = ck := ⟨_, rfl⟩
  rw [hck] at HCH HRC
  clear hr hs hg hok hck hml hn
  go_enter Tryd.func10, Tryd.ntmps10
  go_wp2_with fail
  refine (HCH.out _ H0.out.low).mono ?_
  rintro e w1 ⟨a1, c1, z1, rfl, hg1, hn1, hby1, hb1⟩
  have H1 : Hid (TwoIn w w1 (shA st p k (some ⟨g, 0, none⟩) n cap) (shA st p k a n c)) := H0.out.below hb1
  obtain ⟨a0, a1', a2, a3⟩ := cells_4 H1.out.pa
  obtain ⟨b0, b1, b2, b3⟩ := cells_4 H1.out.pb
  have HZ1 : Hid ((Good st p k l → z1 = shotL st p k l) ∧ (¬ Good st p k l → z1 = [])) := ⟨hg1, hn1⟩
  have HY1 : Hid (Bys w1 a1 z1) := hby1
  clear hb1 hg1 hn1 hby1
  go_wp2_with fail
  refine (HRC.out _ H1.out.low).mono ?_
  rintro e w2 ⟨d1, e1, z2, rfl, hg2, hn2, hby2, hb2⟩
  have H2 : Hid (TwoIn w w2 (shA st p k (some ⟨g, 0, none⟩) n cap) (shA st p k a n c)) := H1.out.below hb2
  have hz : z2 = z1 := by
    by_cases h : Good st p k l
    · rw [hg2 h, HZ1.out.1 h]
    · rw [hn2 h, HZ1.out.2 h]
  subst hz
  have HY2 : Hid (Bys w2 d1 z2) := hby2
  have HY1' : Hid (Bys w2 a1 z2) := HY1.out.below hb2
  have HZL : Hid (z2.length ≤ maxLen) := by
    show _ ≤ _
    rcases HL.out with h | h
    · by_cases hgd : Good st p k l
      · rw [HZ1.out.1 hgd]; exact h
      · rw [HZ1.out.2 hgd]; unfold maxLen; simp
    · rw [HZ1.out.2 h]; unfold maxLen; simp
  clear hb2 hg2 hn2 hby2 a0 a1' a2 a3 b0 b1 b2 b3
  go_wp2_with fail
  refine (num_any _ _).mono ?_
  rintro e w3 ⟨rfl, rfl⟩
  have HSB : Hid _ := sameBytes_any a1 d1 c1 e1 z2 z2 w3 HY1'.out HY2.out HZL.out
  go_wp2_with fail
  refine Calls.mono HSB.out ?_
  rintro e w4 ⟨he, m, rfl⟩
  have he' : e = .returned (.bool true) := by rw [he]; simp
  subst he'
  have H4 : Hid (TwoIn w (w3.drewN m) (shA st p k (some ⟨g, 0, none⟩) n cap) (shA st p k a n c)) := ⟨H2.out.pa, H2.out.pb, below_drewN H2.out.low m⟩
  obtain ⟨a0, a1', a2, a3⟩ := cells_4 H4.out.pa
  obtain ⟨b0, b1, b2, b3⟩ := cells_4 H4.out.pb
  clear he
  go_wp2_with fail
  refine (HUN.out _ H4.out.low).mono ?_
  rintro e w5 ⟨rfl, hb5⟩
  have HB5 : Hid (Below w.heap.size w w5) := trans2 H4.out.low hb5
  clear hb5
  go_wp2_with fail
  go_ret
  exact ⟨rfl, HB5.out⟩
end Go.Proofs.YtkmiemjjedbnaaaDoor
