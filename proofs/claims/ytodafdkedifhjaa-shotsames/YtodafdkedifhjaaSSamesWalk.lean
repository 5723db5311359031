/-
  ShotSames: the walk.
-/
import Derived.Test.YtodafdkedifhjaaSTurned
namespace Go.Proofs.Ytodafdkedifhjaa
open Go.RowKit Classical
set_option linter.unusedVariables false
set_option linter.unusedSimpArgs false

abbrev shC (st : Int) (p : ByteArray) (k : Int) (a : Option Addr) (n c : Nat) : Array Value := #[.int .i64 st, .string p, .int .i64 k, .slice a n c]
/-- What stands while the law is played: variables of the frame. -/
structure SI (W w : World) (L : List (Nat × Array Value)) : Prop where
  bl : ∀ x ∈ L, w.heap[x.1]? = some (.cells x.2 24 (0, 0))
  low : Below W.heap.size W w
theorem SI.below {W w w' : World} {L : List (Nat × Array Value)} (h : SI W w L) (hb : Below w.heap.size w w') : SI W w' L := ⟨fun x hx => kept_block hb (h.bl x hx), trans2 h.low hb⟩
theorem SI.push {W w : World} {L : List (Nat × Array Value)} (h : SI W w L) (cs : Array Value) : SI W (w.alloc (.cells cs 24)) (L ++ [(w.heap.size, cs)]) := by
  refine ⟨fun x hx => ?_, trans2 h.low ((Below.refl _ _).alloc (Nat.le_refl _) _)⟩
  rcases List.mem_append.1 hx with hx | hx
  · exact new_old (h.bl x hx) _
  · simp only [List.mem_singleton] at hx
    subst hx
    exact heap_alloc_new _ _
theorem SI.nil (W : World) : SI W W [] := ⟨fun x hx => absurd hx (List.not_mem_nil), Below.refl _ _⟩
theorem SI.chg {W w w' : World} {L : List (Nat × Array Value)} {g : Nat} (h : SI W w L) (hc : Chg w w' (fun j => j = g)) (hk : ∃ cur, w.heap[g]? = some (.cells cur 30 (0, 0))) (hg : W.heap.size ≤ g) : SI W w' L := by
  refine ⟨fun x hx => ?_, h.low.trans (hc.below h.low.size (fun k _ e => by rw [e]; exact hg))⟩
  rw [hc.block x.1 (lt_of_blk (h.bl x hx)) (fun e => ?_)]
  · exact h.bl x hx
  · obtain ⟨cur, hk⟩ := hk
    rw [← e, h.bl x hx] at hk
    cases hk
/-- .. and the two lists that the law made. -/
structure S2 (W w : World) (L : List (Nat × Array Value)) (gc cc gd cd m n : Nat) (l l' : List SeenT) : Prop where
  si : SI W w L
  rc : w.ownsRow W.heap.size 30 3 (.slice (some ⟨gc, 0, none⟩) (m + 1) cc) (m + 1) (seCs l ++ markT.cells)
  rd : w.ownsRow W.heap.size 30 3 (.slice (some ⟨gd, 0, none⟩) (n + 1) cd) (n + 1) (seCs l' ++ markT.cells)
  ne : gc ≠ gd
theorem S2.below {W w w' : World} {L : List (Nat × Array Value)} {gc cc gd cd m n : Nat} {l l' : List SeenT} (h : S2 W w L gc cc gd cd m n l l') (hb : Below w.heap.size w w') : S2 W w' L gc cc gd cd m n l l' := ⟨h.si.below hb, owns_below h.rc hb, owns_below h.rd hb, h.ne⟩
theorem owns_low {w : World} {B B' e s n : Nat} {v : Value} {xs : List Value} (h : w.ownsRow B e s v n xs) (hb : B' ≤ B) : w.ownsRow B' e s v n xs := by
  refine ⟨h.1, ?_⟩
  rcases h.2 with h0 | ⟨g, cap, cur, hv, hB, r⟩
  · exact .inl h0
  · exact .inr ⟨g, cap, cur, hv, Nat.le_trans hb hB, r⟩
theorem row_kind {w : World} {B e s n g cap : Nat} {xs : List Value} (h : w.ownsRow B e s (.slice (some ⟨g, 0, none⟩) n cap) n xs) : ∃ cur, w.heap[g]? = some (.cells cur e (0, 0)) := owns_kind h rfl

theorem same_n (st st' : Int) (p p' : ByteArray) (k k' : Int) (a a' : Option Addr) (c c' n n' : Nat) (l l' : List SeenT) (w : World) (hs : Ss w a l) (ht : Ss w a' l') (hn : l.length = n) (hn' : l'.length = n') (hl : n ≤ maxLen) :
    Calls Try.prog 6 #[.agg (shC st p k a n c), .agg (shC st' p' k' a' n' c')] w fun e w' => e = .returned (.bool (decide (p = p' ∧ k = k' ∧ l = l'))) ∧ Below w.heap.size w w' := by
  subst hn hn'
  exact same_any ⟨st, p, k, a, c, l⟩ ⟨st', p', k', a', c', l'⟩ w hs ht hl
theorem refSame_n (st st' : Int) (p p' : ByteArray) (k k' : Int) (a a' : Option Addr) (c c' n n' : Nat) (l l' : List SeenT) (w : World) (hs : Ss w a l) (ht : Ss w a' l') (hn : l.length = n) (hn' : l'.length = n') (hl : n ≤ maxLen) :
    Calls Try.prog 7 #[.agg (shC st p k a n c), .agg (shC st' p' k' a' n' c')] w fun e w' => e = .returned (.bool (decide (p = p' ∧ k = k' ∧ l = l'))) ∧ Below w.heap.size w w' := by
  subst hn hn'
  exact refSame_any ⟨st, p, k, a, c, l⟩ ⟨st', p', k', a', c', l'⟩ w hs ht hl
theorem untouched_n (base g cap n : Nat) (st : Int) (p : ByteArray) (k : Int) (l : List SeenT) (a : Option Addr) (c : Nat) (w : World) (hn : l.length = n) (hr : w.ownsRow base 30 3 (.slice (some ⟨g, 0, none⟩) (n + 1) cap) (n + 1) (seCs l ++ markT.cells)) (hs : Ss w a l) (hl : n ≤ 1000) :
    Calls Try.prog 8 #[.agg (shC st p k (some ⟨g, 0, none⟩) n cap), .agg (shC st p k a n c)] w fun e w' => e = .returned (.bool true) ∧ Below w.heap.size w w' := by
  subst hn
  exact untouched_any base g cap st p k l a c w hr hs hl

set_option maxHeartbeats 6400000 in
set_option maxRecDepth 100000 in
theorem sames_walk (W : World) (s t : ShT) (hs : Ss W s.a s.l) (ht : Ss W t.a t.l) (hsn : s.a = none → s.c = 0) (htn : t.a = none → t.c = 0) :
    Calls Try.prog 3 #[s.val, t.val] W fun e w' => e = .returned (.bool true) ∧ Below W.heap.size W w' := by
  by_cases hls : s.l.length ≤ 70
  · by_cases hlt : t.l.length ≤ 70
    · have hls' : (s.l.length : Int) ≤ 70 := by omega
      have hlt' : (t.l.length : Int) ≤ 70 := by omega
      have HSM : Hid (∀ w, Calls Try.prog 4 #[s.val] w fun e w' => e = .returned (.bool true) ∧ Below w.heap.size w w') := fun w => (small_any s w).mono (fun e w' h => ⟨by rw [h.1, decide_eq_true hls'], h.2⟩)
      have HTM : Hid (∀ w, Calls Try.prog 4 #[t.val] w fun e w' => e = .returned (.bool true) ∧ Below w.heap.size w w') := fun w => (small_any t w).mono (fun e w' h => ⟨by rw [h.1, decide_eq_true hlt'], h.2⟩)
      have HS : Hid (Ss W s.a s.l) := hs
      have HT : Hid (Ss W t.a t.l) := ht
      have HSN : Hid _ := hsn
      have HTN : Hid _ := htn
      have HLS : Hid (s.l.length ≤ 70) := hls
      have HLT : Hid (t.l.length ≤ 70) := hlt
      clear hs ht hsn htn hls hlt hls' hlt'
      obtain ⟨st, p, k, a, c, l⟩ := s
      obtain ⟨st', p', k', a', c', l'⟩ := t
      simp only at HS HT HSN HTN HLS HLT
      go_enter Try.func3, Try.ntmps3
      go_wp2_with fail
      have H0 : Hid (SI W ((W.alloc (.cells (shC st p k a l.length c) 24)).alloc (.cells (shC st' p' k' a' l'.length c') 24)) [(W.heap.size, shC st p k a l.length c), (W.heap.size + 1, shC st' p' k' a' l'.length c')]) := by have := ((SI.nil W).push (shC st p k a l.length c)).push (shC st' p' k' a' l'.length c'); show SI _ _ _; simpa using this
      refine (HSM.out _).mono ?_
      rintro e w1 ⟨rfl, hb1⟩
      have H1 : Hid (SI W w1 [(W.heap.size, shC st p k a l.length c), (W.heap.size + 1, shC st' p' k' a' l'.length c')]) := H0.out.below hb1
      obtain ⟨a0, a1, a2, a3⟩ := cells_4 (H1.out.bl (W.heap.size, shC st p k a l.length c) (by simp))
      obtain ⟨b0, b1, b2, b3⟩ := cells_4 (H1.out.bl (W.heap.size + 1, shC st' p' k' a' l'.length c') (by simp))
      clear hb1
      go_wp2_with fail
      refine (HTM.out _).mono ?_
      rintro e w2 ⟨rfl, hb2⟩
      have H2 : Hid (SI W w2 [(W.heap.size, shC st p k a l.length c), (W.heap.size + 1, shC st' p' k' a' l'.length c')]) := H1.out.below hb2
      clear hb2 a0 a1 a2 a3 b0 b1 b2 b3
      obtain ⟨a0, a1, a2, a3⟩ := cells_4 (H2.out.bl (W.heap.size, shC st p k a l.length c) (by simp))
      obtain ⟨b0, b1, b2, b3⟩ := cells_4 (H2.out.bl (W.heap.size + 1, shC st' p' k' a' l'.length c') (by simp))
      go_wp2_with fail
      refine (roomy_any w2.heap.size st p k a c l w2 (HS.out.below H2.out.low) (by have := HLS.out; omega) (Nat.le_refl _) HSN.out).mono ?_
      rintro e w3 ⟨gc, cc, rfl, ho3, hb3⟩
      have H3 : Hid (SI W w3 [(W.heap.size, shC st p k a l.length c), (W.heap.size + 1, shC st' p' k' a' l'.length c')]) := H2.out.below hb3
      have HO3 : Hid (w3.ownsRow w2.heap.size 30 3 (.slice (some ⟨gc, 0, none⟩) (l.length + 1) cc) (l.length + 1) (seCs l ++ markT.cells)) := ho3
      have H3' : Hid (SI W (w3.alloc (.cells (shC st p k (some ⟨gc, 0, none⟩) l.length cc) 24)) [(W.heap.size, shC st p k a l.length c), (W.heap.size + 1, shC st' p' k' a' l'.length c'), (w3.heap.size, shC st p k (some ⟨gc, 0, none⟩) l.length cc)]) := H3.out.push _
      clear hb3 ho3 a0 a1 a2 a3 b0 b1 b2 b3
      obtain ⟨a0, a1, a2, a3⟩ := cells_4 (H3'.out.bl (W.heap.size, shC st p k a l.length c) (by simp))
      obtain ⟨b0, b1, b2, b3⟩ := cells_4 (H3'.out.bl (W.heap.size + 1, shC st' p' k' a' l'.length c') (by simp))
      obtain ⟨c0, c1, c2, c3⟩ := cells_4 (H3'.out.bl (w3.heap.size, shC st p k (some ⟨gc, 0, none⟩) l.length cc) (by simp))
      go_wp2_with fail
      refine (roomy_any (w3.alloc (.cells (shC st p k (some ⟨gc, 0, none⟩) l.length cc) 24)).heap.size st' p' k' a' c' l' _ (HT.out.below H3'.out.low) (by have := HLT.out; omega) (Nat.le_refl _) HTN.out).mono ?_
      rintro e w4 ⟨gd, cd, rfl, ho4, hb4⟩
      have H4 : Hid (SI W w4 [(W.heap.size, shC st p k a l.length c), (W.heap.size + 1, shC st' p' k' a' l'.length c'), (w3.heap.size, shC st p k (some ⟨gc, 0, none⟩) l.length cc)]) := H3'.out.below hb4
      have HO4 : Hid (w4.ownsRow (w3.heap.size + 1) 30 3 (.slice (some ⟨gd, 0, none⟩) (l'.length + 1) cd) (l'.length + 1) (seCs l' ++ markT.cells)) := by have := ho4; simp only [World.size_alloc] at this; exact this
      have HC4 : Hid (w4.ownsRow w2.heap.size 30 3 (.slice (some ⟨gc, 0, none⟩) (l.length + 1) cc) (l.length + 1) (seCs l ++ markT.cells)) := owns_below (World.ownsRow.alloc HO3.out _) hb4
      have H4' : Hid (SI W (w4.alloc (.cells (shC st' p' k' (some ⟨gd, 0, none⟩) l'.length cd) 24)) [(W.heap.size, shC st p k a l.length c), (W.heap.size + 1, shC st' p' k' a' l'.length c'), (w3.heap.size, shC st p k (some ⟨gc, 0, none⟩) l.length cc), (w4.heap.size, shC st' p' k' (some ⟨gd, 0, none⟩) l'.length cd)]) := H4.out.push _
      clear hb4 ho4 a0 a1 a2 a3 b0 b1 b2 b3 c0 c1 c2 c3
      obtain ⟨a0, a1, a2, a3⟩ := cells_4 (H4'.out.bl (W.heap.size, shC st p k a l.length c) (by simp))
      obtain ⟨b0, b1, b2, b3⟩ := cells_4 (H4'.out.bl (W.heap.size + 1, shC st' p' k' a' l'.length c') (by simp))
      obtain ⟨c0, c1, c2, c3⟩ := cells_4 (H4'.out.bl (w3.heap.size, shC st p k (some ⟨gc, 0, none⟩) l.length cc) (by simp))
      obtain ⟨d0, d1, d2, d3⟩ := cells_4 (H4'.out.bl (w4.heap.size, shC st' p' k' (some ⟨gd, 0, none⟩) l'.length cd) (by simp))
      have H5 : Hid (S2 W (w4.alloc (.cells (shC st' p' k' (some ⟨gd, 0, none⟩) l'.length cd) 24)) [(W.heap.size, shC st p k a l.length c), (W.heap.size + 1, shC st' p' k' a' l'.length c'), (w3.heap.size, shC st p k (some ⟨gc, 0, none⟩) l.length cc), (w4.heap.size, shC st' p' k' (some ⟨gd, 0, none⟩) l'.length cd)] gc cc gd cd l.length l'.length l l') := ⟨H4'.out, World.ownsRow.alloc (owns_low HC4.out H2.out.low.size) _, World.ownsRow.alloc (owns_low HO4.out (by have := H3.out.low.size; omega)) _, by have := (HO3.out.lt gc rfl).2; have := (HO4.out.lt gd rfl).1; omega⟩
      clear HO3 HO4 HC4 H4 H4' H3 H3' H2 H1 H0 HSM HTM
      go_wp2_with fail
      refine (same_any ⟨st, p, k, some ⟨gc, 0, none⟩, cc, l⟩ ⟨st', p', k', some ⟨gd, 0, none⟩, cd, l'⟩ _ (ss_of_owns H5.out.rc) (ss_of_owns H5.out.rd) (by have := HLS.out; unfold maxLen; show l.length ≤ _; omega)).mono ?_
      obtain ⟨r, hr⟩ : ∃ r, decide (p = p' ∧ k = k' ∧ l = l') = r := ⟨_, rfl⟩
      have HR : Hid (decide (p = p' ∧ k = k' ∧ l = l') = r) := hr
      rintro e w6 ⟨he, hb6⟩
      have he' : e = .returned (.bool r) := he.trans (by show Ending.returned (.bool (decide (p = p' ∧ k = k' ∧ l = l'))) = _; rw [hr])
      subst he'
      clear he hr
      have H6 : Hid (S2 W w6 [(W.heap.size, shC st p k a l.length c), (W.heap.size + 1, shC st' p' k' a' l'.length c'), (w3.heap.size, shC st p k (some ⟨gc, 0, none⟩) l.length cc), (w4.heap.size, shC st' p' k' (some ⟨gd, 0, none⟩) l'.length cd)] gc cc gd cd l.length l'.length l l') := H5.out.below hb6
      clear hb6 a0 a1 a2 a3 b0 b1 b2 b3 c0 c1 c2 c3 d0 d1 d2 d3
      obtain ⟨a0, a1, a2, a3⟩ := cells_4 (H6.out.si.bl (W.heap.size, shC st p k a l.length c) (by simp))
      obtain ⟨b0, b1, b2, b3⟩ := cells_4 (H6.out.si.bl (W.heap.size + 1, shC st' p' k' a' l'.length c') (by simp))
      obtain ⟨c0, c1, c2, c3⟩ := cells_4 (H6.out.si.bl (w3.heap.size, shC st p k (some ⟨gc, 0, none⟩) l.length cc) (by simp))
      obtain ⟨d0, d1, d2, d3⟩ := cells_4 (H6.out.si.bl (w4.heap.size, shC st' p' k' (some ⟨gd, 0, none⟩) l'.length cd) (by simp))
      go_wp2_with fail
      refine (refSame_any ⟨st, p, k, a, c, l⟩ ⟨st', p', k', a', c', l'⟩ _ (HS.out.below H6.out.si.low) (HT.out.below H6.out.si.low) (by have := HLS.out; unfold maxLen; show l.length ≤ _; omega)).mono ?_
      rintro e w7 ⟨he, hb7⟩
      have he' : e = .returned (.bool r) := he.trans (by show Ending.returned (.bool (decide (p = p' ∧ k = k' ∧ l = l'))) = _; rw [HR.out])
      subst he'
      clear he
      have H7 : Hid (S2 W w7 [(W.heap.size, shC st p k a l.length c), (W.heap.size + 1, shC st' p' k' a' l'.length c'), (w3.heap.size, shC st p k (some ⟨gc, 0, none⟩) l.length cc), (w4.heap.size, shC st' p' k' (some ⟨gd, 0, none⟩) l'.length cd)] gc cc gd cd l.length l'.length l l') := H6.out.below hb7
      clear hb7 a0 a1 a2 a3 b0 b1 b2 b3 c0 c1 c2 c3 d0 d1 d2 d3
      obtain ⟨a0, a1, a2, a3⟩ := cells_4 (H7.out.si.bl (W.heap.size, shC st p k a l.length c) (by simp))
      obtain ⟨b0, b1, b2, b3⟩ := cells_4 (H7.out.si.bl (W.heap.size + 1, shC st' p' k' a' l'.length c') (by simp))
      obtain ⟨c0, c1, c2, c3⟩ := cells_4 (H7.out.si.bl (w3.heap.size, shC st p k (some ⟨gc, 0, none⟩) l.length cc) (by simp))
      obtain ⟨d0, d1, d2, d3⟩ := cells_4 (H7.out.si.bl (w4.heap.size, shC st' p' k' (some ⟨gd, 0, none⟩) l'.length cd) (by simp))
      go_wp2_with fail
      refine (same_any ⟨st, p, k, some ⟨gc, 0, none⟩, cc, l⟩ ⟨st, p, k, a, c, l⟩ _ (ss_of_owns H7.out.rc) (HS.out.below H7.out.si.low) (by have := HLS.out; unfold maxLen; show l.length ≤ _; omega)).mono ?_
      rintro e w8 ⟨he, hb8⟩
      have he' : e = .returned (.bool true) := he.trans (by simp)
      subst he'
      clear he
      have H8 : Hid (S2 W w8 [(W.heap.size, shC st p k a l.length c), (W.heap.size + 1, shC st' p' k' a' l'.length c'), (w3.heap.size, shC st p k (some ⟨gc, 0, none⟩) l.length cc), (w4.heap.size, shC st' p' k' (some ⟨gd, 0, none⟩) l'.length cd)] gc cc gd cd l.length l'.length l l') := H7.out.below hb8
      clear hb8 a0 a1 a2 a3 b0 b1 b2 b3 c0 c1 c2 c3 d0 d1 d2 d3
      obtain ⟨a0, a1, a2, a3⟩ := cells_4 (H8.out.si.bl (W.heap.size, shC st p k a l.length c) (by simp))
      obtain ⟨b0, b1, b2, b3⟩ := cells_4 (H8.out.si.bl (W.heap.size + 1, shC st' p' k' a' l'.length c') (by simp))
      obtain ⟨c0, c1, c2, c3⟩ := cells_4 (H8.out.si.bl (w3.heap.size, shC st p k (some ⟨gc, 0, none⟩) l.length cc) (by simp))
      obtain ⟨d0, d1, d2, d3⟩ := cells_4 (H8.out.si.bl (w4.heap.size, shC st' p' k' (some ⟨gd, 0, none⟩) l'.length cd) (by simp))
      go_wp2_with fail
      refine (untouched_any W.heap.size gc cc st p k l a c _ H8.out.rc (HS.out.below H8.out.si.low) (by have := HLS.out; omega)).mono ?_
      rintro e w9 ⟨rfl, hb9⟩
      have H9 : Hid (S2 W w9 [(W.heap.size, shC st p k a l.length c), (W.heap.size + 1, shC st' p' k' a' l'.length c'), (w3.heap.size, shC st p k (some ⟨gc, 0, none⟩) l.length cc), (w4.heap.size, shC st' p' k' (some ⟨gd, 0, none⟩) l'.length cd)] gc cc gd cd l.length l'.length l l') := H8.out.below hb9
      clear hb9 a0 a1 a2 a3 b0 b1 b2 b3 c0 c1 c2 c3 d0 d1 d2 d3
      obtain ⟨a0, a1, a2, a3⟩ := cells_4 (H9.out.si.bl (W.heap.size, shC st p k a l.length c) (by simp))
      obtain ⟨b0, b1, b2, b3⟩ := cells_4 (H9.out.si.bl (W.heap.size + 1, shC st' p' k' a' l'.length c') (by simp))
      obtain ⟨c0, c1, c2, c3⟩ := cells_4 (H9.out.si.bl (w3.heap.size, shC st p k (some ⟨gc, 0, none⟩) l.length cc) (by simp))
      obtain ⟨d0, d1, d2, d3⟩ := cells_4 (H9.out.si.bl (w4.heap.size, shC st' p' k' (some ⟨gd, 0, none⟩) l'.length cd) (by simp))
      go_wp2_with fail
      refine (untouched_any W.heap.size gd cd st' p' k' l' a' c' _ H9.out.rd (HT.out.below H9.out.si.low) (by have := HLT.out; omega)).mono ?_
      rintro e w10 ⟨rfl, hb10⟩
      have H10 : Hid (S2 W w10 [(W.heap.size, shC st p k a l.length c), (W.heap.size + 1, shC st' p' k' a' l'.length c'), (w3.heap.size, shC st p k (some ⟨gc, 0, none⟩) l.length cc), (w4.heap.size, shC st' p' k' (some ⟨gd, 0, none⟩) l'.length cd)] gc cc gd cd l.length l'.length l l') := H9.out.below hb10
      clear hb10 a0 a1 a2 a3 b0 b1 b2 b3 c0 c1 c2 c3 d0 d1 d2 d3
      obtain ⟨a0, a1, a2, a3⟩ := cells_4 (H10.out.si.bl (W.heap.size, shC st p k a l.length c) (by simp))
      obtain ⟨b0, b1, b2, b3⟩ := cells_4 (H10.out.si.bl (W.heap.size + 1, shC st' p' k' a' l'.length c') (by simp))
      obtain ⟨c0, c1, c2, c3⟩ := cells_4 (H10.out.si.bl (w3.heap.size, shC st p k (some ⟨gc, 0, none⟩) l.length cc) (by simp))
      obtain ⟨d0, d1, d2, d3⟩ := cells_4 (H10.out.si.bl (w4.heap.size, shC st' p' k' (some ⟨gd, 0, none⟩) l'.length cd) (by simp))
      go_wp2_with fail
      refine (turned_any W.heap.size gd cd st' p' k' l' _ H10.out.rd (by have := HLT.out; omega)).mono ?_
      rintro e w11 ⟨xa, xc, rfl, hx11, hn11, hr11, hc11⟩
      have H11 : Hid (S2 W w11 [(W.heap.size, shC st p k a l.length c), (W.heap.size + 1, shC st' p' k' a' l'.length c'), (w3.heap.size, shC st p k (some ⟨gc, 0, none⟩) l.length cc), (w4.heap.size, shC st' p' k' (some ⟨gd, 0, none⟩) l'.length cd)] gc cc gd cd l.length l'.length l (l'.map turn)) := ⟨H10.out.si.chg hc11 (row_kind H10.out.rd) (H10.out.rd.lt gd rfl).1, owns_same H10.out.rc (fun j hj => hc11.block j (H10.out.rc.lt j hj).2 (fun e => H10.out.ne (by simp only [Value.ownBlock, Option.some.injEq] at hj; omega))), hr11, H10.out.ne⟩
      have HX : Hid (Ss w11 xa (l'.map turn)) := hx11
      have HML : Hid ((l'.map turn).length = l'.length) := by show _ = _; simp
      have H12 : Hid (S2 W (w11.alloc (.cells (shC st' p' k' xa l'.length xc) 24)) [(W.heap.size, shC st p k a l.length c), (W.heap.size + 1, shC st' p' k' a' l'.length c'), (w3.heap.size, shC st p k (some ⟨gc, 0, none⟩) l.length cc), (w4.heap.size, shC st' p' k' (some ⟨gd, 0, none⟩) l'.length cd), (w11.heap.size, shC st' p' k' xa l'.length xc)] gc cc gd cd l.length l'.length l (l'.map turn)) := ⟨H11.out.si.push _, World.ownsRow.alloc H11.out.rc _, World.ownsRow.alloc H11.out.rd _, H11.out.ne⟩
      have HX' : Hid (Ss (w11.alloc (.cells (shC st' p' k' xa l'.length xc) 24)) xa (l'.map turn)) := HX.out.below ((Below.refl _ _).alloc (Nat.le_refl _) _)
      clear hx11 hn11 hr11 hc11 a0 a1 a2 a3 b0 b1 b2 b3 c0 c1 c2 c3 d0 d1 d2 d3
      obtain ⟨a0, a1, a2, a3⟩ := cells_4 (H12.out.si.bl (W.heap.size, shC st p k a l.length c) (by simp))
      obtain ⟨b0, b1, b2, b3⟩ := cells_4 (H12.out.si.bl (W.heap.size + 1, shC st' p' k' a' l'.length c') (by simp))
      obtain ⟨c0, c1, c2, c3⟩ := cells_4 (H12.out.si.bl (w3.heap.size, shC st p k (some ⟨gc, 0, none⟩) l.length cc) (by simp))
      obtain ⟨d0, d1, d2, d3⟩ := cells_4 (H12.out.si.bl (w4.heap.size, shC st' p' k' (some ⟨gd, 0, none⟩) l'.length cd) (by simp))
      obtain ⟨x0, x1, x2, x3⟩ := cells_4 (H12.out.si.bl (w11.heap.size, shC st' p' k' xa l'.length xc) (by simp))
      obtain ⟨r2, hr2⟩ : ∃ r, decide (p = p' ∧ k = k' ∧ l = l'.map turn) = r := ⟨_, rfl⟩
      have HR2 : Hid (decide (p = p' ∧ k = k' ∧ l = l'.map turn) = r2) := hr2
      have HD : Hid (S2 W (w11.alloc (.cells (shC st' p' k' xa l'.length xc) 24)).drew [(W.heap.size, shC st p k a l.length c), (W.heap.size + 1, shC st' p' k' a' l'.length c'), (w3.heap.size, shC st p k (some ⟨gc, 0, none⟩) l.length cc), (w4.heap.size, shC st' p' k' (some ⟨gd, 0, none⟩) l'.length cd), (w11.heap.size, shC st' p' k' xa l'.length xc)] gc cc gd cd l.length l'.length l (l'.map turn)) := H12.out.below ⟨rfl, rfl, rfl, Nat.le_refl _, fun _ _ => rfl⟩
      have HXS : Hid (∀ w', Below w11.heap.size w11 w' → Ss w' xa (l'.map turn)) := fun w' hb => HX.out.below hb
      clear hr2 b0 b1 b2 b3
      go_wp2_with fail
      go_region_held3 (fun w' => w'.cell? ⟨W.heap.size, 0, none⟩ = some (.int .i64 st) ∧ w'.cell? ⟨W.heap.size, 1, none⟩ = some (.string p) ∧ w'.cell? ⟨W.heap.size, 2, none⟩ = some (.int .i64 k) ∧ w'.cell? ⟨W.heap.size, 3, none⟩ = some (.slice a l.length c) ∧ w'.cell? ⟨w3.heap.size, 0, none⟩ = some (.int .i64 st) ∧ w'.cell? ⟨w3.heap.size, 1, none⟩ = some (.string p) ∧ w'.cell? ⟨w3.heap.size, 2, none⟩ = some (.int .i64 k) ∧ w'.cell? ⟨w3.heap.size, 3, none⟩ = some (.slice (some ⟨gc, 0, none⟩) l.length cc) ∧ w'.cell? ⟨w4.heap.size, 0, none⟩ = some (.int .i64 st') ∧ w'.cell? ⟨w4.heap.size, 1, none⟩ = some (.string p') ∧ w'.cell? ⟨w4.heap.size, 2, none⟩ = some (.int .i64 k') ∧ w'.cell? ⟨w4.heap.size, 3, none⟩ = some (.slice (some ⟨gd, 0, none⟩) l'.length cd) ∧ w'.cell? ⟨w11.heap.size, 0, none⟩ = some (.int .i64 st') ∧ w'.cell? ⟨w11.heap.size, 1, none⟩ = some (.string p') ∧ w'.cell? ⟨w11.heap.size, 2, none⟩ = some (.int .i64 k') ∧ w'.cell? ⟨w11.heap.size, 3, none⟩ = some (.slice xa l'.length xc)) (first | go_keep | exact ⟨a0, a1, a2, a3, c0, c1, c2, c3, d0, d1, d2, d3, x0, x1, x2, x3⟩)
        (first
        | (go_at_call 8; refine (untouched_n W.heap.size gd cd l'.length st' p' k' (l'.map turn) xa xc w16 HML.out H16.out.rd HY16.out (by have := HLT.out; omega)).mono ?_; rintro e w17 ⟨he, hb17⟩
           have he' : e = .returned (.bool true) := he.trans (by simp)
           subst he'
           have H17 : Hid (S2 W w17 [(W.heap.size, shC st p k a l.length c), (W.heap.size + 1, shC st' p' k' a' l'.length c'), (w3.heap.size, shC st p k (some ⟨gc, 0, none⟩) l.length cc), (w4.heap.size, shC st' p' k' (some ⟨gd, 0, none⟩) l'.length cd), (w11.heap.size, shC st' p' k' xa l'.length xc)] gc cc gd cd l.length l'.length l (l'.map turn)) := H16.out.below hb17
           clear he hb17 a0 a1 a2 a3 c0 c1 c2 c3 d0 d1 d2 d3 x0 x1 x2 x3
           obtain ⟨a0, a1, a2, a3⟩ := cells_4 (H17.out.si.bl (W.heap.size, shC st p k a l.length c) (by simp))
           obtain ⟨c0, c1, c2, c3⟩ := cells_4 (H17.out.si.bl (w3.heap.size, shC st p k (some ⟨gc, 0, none⟩) l.length cc) (by simp))
           obtain ⟨d0, d1, d2, d3⟩ := cells_4 (H17.out.si.bl (w4.heap.size, shC st' p' k' (some ⟨gd, 0, none⟩) l'.length cd) (by simp))
           obtain ⟨x0, x1, x2, x3⟩ := cells_4 (H17.out.si.bl (w11.heap.size, shC st' p' k' xa l'.length xc) (by simp)))
        | (go_at_call 8; refine (untouched_n W.heap.size gc cc l.length st p k l a c w15 rfl H15.out.rc (HS.out.below H15.out.si.low) (by have := HLS.out; omega)).mono ?_; rintro e w16 ⟨he, hb16⟩
           have he' : e = .returned (.bool true) := he.trans (by simp)
           subst he'
           have HY16 : Hid (Ss w16 xa (l'.map turn)) := HY15.out.below hb16
           have H16 : Hid (S2 W w16 [(W.heap.size, shC st p k a l.length c), (W.heap.size + 1, shC st' p' k' a' l'.length c'), (w3.heap.size, shC st p k (some ⟨gc, 0, none⟩) l.length cc), (w4.heap.size, shC st' p' k' (some ⟨gd, 0, none⟩) l'.length cd), (w11.heap.size, shC st' p' k' xa l'.length xc)] gc cc gd cd l.length l'.length l (l'.map turn)) := H15.out.below hb16
           clear he hb16 a0 a1 a2 a3 c0 c1 c2 c3 d0 d1 d2 d3 x0 x1 x2 x3
           obtain ⟨a0, a1, a2, a3⟩ := cells_4 (H16.out.si.bl (W.heap.size, shC st p k a l.length c) (by simp))
           obtain ⟨c0, c1, c2, c3⟩ := cells_4 (H16.out.si.bl (w3.heap.size, shC st p k (some ⟨gc, 0, none⟩) l.length cc) (by simp))
           obtain ⟨d0, d1, d2, d3⟩ := cells_4 (H16.out.si.bl (w4.heap.size, shC st' p' k' (some ⟨gd, 0, none⟩) l'.length cd) (by simp))
           obtain ⟨x0, x1, x2, x3⟩ := cells_4 (H16.out.si.bl (w11.heap.size, shC st' p' k' xa l'.length xc) (by simp)))
        | (go_at_call 6; refine (same_n st st p p k k (some ⟨gc, 0, none⟩) a cc c l.length l.length l l w14 (ss_of_owns H14.out.rc) (HS.out.below H14.out.si.low) rfl rfl (by have := HLS.out; unfold maxLen; omega)).mono ?_; rintro e w15 ⟨he, hb15⟩
           have he' : e = .returned (.bool true) := he.trans (by simp)
           subst he'
           have HY15 : Hid (Ss w15 xa (l'.map turn)) := HY14.out.below hb15
           have H15 : Hid (S2 W w15 [(W.heap.size, shC st p k a l.length c), (W.heap.size + 1, shC st' p' k' a' l'.length c'), (w3.heap.size, shC st p k (some ⟨gc, 0, none⟩) l.length cc), (w4.heap.size, shC st' p' k' (some ⟨gd, 0, none⟩) l'.length cd), (w11.heap.size, shC st' p' k' xa l'.length xc)] gc cc gd cd l.length l'.length l (l'.map turn)) := H14.out.below hb15
           clear he hb15 a0 a1 a2 a3 c0 c1 c2 c3 d0 d1 d2 d3 x0 x1 x2 x3
           obtain ⟨a0, a1, a2, a3⟩ := cells_4 (H15.out.si.bl (W.heap.size, shC st p k a l.length c) (by simp))
           obtain ⟨c0, c1, c2, c3⟩ := cells_4 (H15.out.si.bl (w3.heap.size, shC st p k (some ⟨gc, 0, none⟩) l.length cc) (by simp))
           obtain ⟨d0, d1, d2, d3⟩ := cells_4 (H15.out.si.bl (w4.heap.size, shC st' p' k' (some ⟨gd, 0, none⟩) l'.length cd) (by simp))
           obtain ⟨x0, x1, x2, x3⟩ := cells_4 (H15.out.si.bl (w11.heap.size, shC st' p' k' xa l'.length xc) (by simp)))
        | (go_at_call 7; refine (refSame_n st st' p p' k k' a xa c xc l.length l'.length l (l'.map turn) w13 (HS.out.below H13.out.si.low) HY13.out rfl HML.out (by have := HLS.out; unfold maxLen; omega)).mono ?_; rintro e w14 ⟨he, hb14⟩
           have he' : e = .returned (.bool r2) := he.trans (by rw [HR2.out])
           subst he'
           have HY14 : Hid (Ss w14 xa (l'.map turn)) := HY13.out.below hb14
           have H14 : Hid (S2 W w14 [(W.heap.size, shC st p k a l.length c), (W.heap.size + 1, shC st' p' k' a' l'.length c'), (w3.heap.size, shC st p k (some ⟨gc, 0, none⟩) l.length cc), (w4.heap.size, shC st' p' k' (some ⟨gd, 0, none⟩) l'.length cd), (w11.heap.size, shC st' p' k' xa l'.length xc)] gc cc gd cd l.length l'.length l (l'.map turn)) := H13.out.below hb14
           clear he hb14 a0 a1 a2 a3 c0 c1 c2 c3 d0 d1 d2 d3 x0 x1 x2 x3
           obtain ⟨a0, a1, a2, a3⟩ := cells_4 (H14.out.si.bl (W.heap.size, shC st p k a l.length c) (by simp))
           obtain ⟨c0, c1, c2, c3⟩ := cells_4 (H14.out.si.bl (w3.heap.size, shC st p k (some ⟨gc, 0, none⟩) l.length cc) (by simp))
           obtain ⟨d0, d1, d2, d3⟩ := cells_4 (H14.out.si.bl (w4.heap.size, shC st' p' k' (some ⟨gd, 0, none⟩) l'.length cd) (by simp))
           obtain ⟨x0, x1, x2, x3⟩ := cells_4 (H14.out.si.bl (w11.heap.size, shC st' p' k' xa l'.length xc) (by simp)))
        | (go_at_call 6; refine (same_n st st' p p' k k' (some ⟨gc, 0, none⟩) (some ⟨gd, 0, none⟩) cc cd l.length l'.length l (l'.map turn) (w11.alloc (.cells (shC st' p' k' xa l'.length xc) 24)).drew (ss_of_owns HD.out.rc) (ss_of_owns HD.out.rd) rfl HML.out (by have := HLS.out; unfold maxLen; omega)).mono ?_; rintro e w13 ⟨he, hb13⟩
           have he' : e = .returned (.bool r2) := he.trans (by rw [HR2.out])
           subst he'
           have HY13 : Hid (Ss w13 xa (l'.map turn)) := HX'.out.below (of_drew hb13)
           have H13 : Hid (S2 W w13 [(W.heap.size, shC st p k a l.length c), (W.heap.size + 1, shC st' p' k' a' l'.length c'), (w3.heap.size, shC st p k (some ⟨gc, 0, none⟩) l.length cc), (w4.heap.size, shC st' p' k' (some ⟨gd, 0, none⟩) l'.length cd), (w11.heap.size, shC st' p' k' xa l'.length xc)] gc cc gd cd l.length l'.length l (l'.map turn)) := H12.out.below (of_drew hb13)
           clear he hb13 a0 a1 a2 a3 c0 c1 c2 c3 d0 d1 d2 d3 x0 x1 x2 x3
           obtain ⟨a0, a1, a2, a3⟩ := cells_4 (H13.out.si.bl (W.heap.size, shC st p k a l.length c) (by simp))
           obtain ⟨c0, c1, c2, c3⟩ := cells_4 (H13.out.si.bl (w3.heap.size, shC st p k (some ⟨gc, 0, none⟩) l.length cc) (by simp))
           obtain ⟨d0, d1, d2, d3⟩ := cells_4 (H13.out.si.bl (w4.heap.size, shC st' p' k' (some ⟨gd, 0, none⟩) l'.length cd) (by simp))
           obtain ⟨x0, x1, x2, x3⟩ := cells_4 (H13.out.si.bl (w11.heap.size, shC st' p' k' xa l'.length xc) (by simp)))
        | fail)
      go_wp2_with fail
      go_ret
      exact ⟨rfl, H17.out.si.low⟩
    · have hls' : (s.l.length : Int) ≤ 70 := by omega
      have hlt' : ¬ (t.l.length : Int) ≤ 70 := by omega
      have HSM : Hid (∀ w, Calls Try.prog 4 #[s.val] w fun e w' => e = .returned (.bool true) ∧ Below w.heap.size w w') := fun w => (small_any s w).mono (fun e w' h => ⟨by rw [h.1, decide_eq_true hls'], h.2⟩)
      have HTM : Hid (∀ w, Calls Try.prog 4 #[t.val] w fun e w' => e = .returned (.bool false) ∧ Below w.heap.size w w') := fun w => (small_any t w).mono (fun e w' h => ⟨by rw [h.1, decide_eq_false hlt'], h.2⟩)
      clear hs ht hsn htn hls hlt hls' hlt'
      obtain ⟨st, p, k, a, c, l⟩ := s
      obtain ⟨st', p', k', a', c', l'⟩ := t
      go_enter Try.func3, Try.ntmps3
      go_wp2_with fail
      have H0 : Hid (SI W ((W.alloc (.cells (shC st p k a l.length c) 24)).alloc (.cells (shC st' p' k' a' l'.length c') 24)) [(W.heap.size, shC st p k a l.length c), (W.heap.size + 1, shC st' p' k' a' l'.length c')]) := by have := ((SI.nil W).push (shC st p k a l.length c)).push (shC st' p' k' a' l'.length c'); show SI _ _ _; simpa using this
      refine (HSM.out _).mono ?_
      rintro e w1 ⟨rfl, hb1⟩
      have H1 : Hid (SI W w1 [(W.heap.size, shC st p k a l.length c), (W.heap.size + 1, shC st' p' k' a' l'.length c')]) := H0.out.below hb1
      obtain ⟨b0, b1, b2, b3⟩ := cells_4 (H1.out.bl (W.heap.size + 1, shC st' p' k' a' l'.length c') (by simp))
      clear hb1
      go_wp2_with fail
      refine (HTM.out _).mono ?_
      rintro e w2 ⟨rfl, hb2⟩
      have H2 : Hid (SI W w2 [(W.heap.size, shC st p k a l.length c), (W.heap.size + 1, shC st' p' k' a' l'.length c')]) := H1.out.below hb2
      clear hb2
      go_wp2_with fail
      go_ret
      exact ⟨rfl, H2.out.low⟩
  · have hls' : ¬ (s.l.length : Int) ≤ 70 := by omega
    have HSM : Hid (∀ w, Calls Try.prog 4 #[s.val] w fun e w' => e = .returned (.bool false) ∧ Below w.heap.size w w') := fun w => (small_any s w).mono (fun e w' h => ⟨by rw [h.1, decide_eq_false hls'], h.2⟩)
    clear hs ht hsn htn hls hls'
    obtain ⟨st, p, k, a, c, l⟩ := s
    obtain ⟨st', p', k', a', c', l'⟩ := t
    go_enter Try.func3, Try.ntmps3
    go_wp2_with fail
    have H0 : Hid (SI W ((W.alloc (.cells (shC st p k a l.length c) 24)).alloc (.cells (shC st' p' k' a' l'.length c') 24)) [(W.heap.size, shC st p k a l.length c), (W.heap.size + 1, shC st' p' k' a' l'.length c')]) := by have := ((SI.nil W).push (shC st p k a l.length c)).push (shC st' p' k' a' l'.length c'); show SI _ _ _; simpa using this
    refine (HSM.out _).mono ?_
    rintro e w1 ⟨rfl, hb1⟩
    have H1 : Hid (SI W w1 [(W.heap.size, shC st p k a l.length c), (W.heap.size + 1, shC st' p' k' a' l'.length c')]) := H0.out.below hb1
    clear hb1
    go_wp2_with fail
    go_ret
    exact ⟨rfl, H1.out.low⟩
end Go.Proofs.Ytodafdkedifhjaa
