/-
  shot: what a shot that may be holds; what a Diff answers.
-/
import Derived.Test.YtkmiemjjedbnaaaDoorCGood
import Derived.Test.YtkmiemjjedbnaaaDoorDPart
import Derived.Test.YtkmiemjjedbnaaaDoorDRev
namespace Go.Proofs.YtkmiemjjedbnaaaDoor
open Go.RowKit Classical
set_option linter.unusedVariables false
set_option linter.unusedSimpArgs false

theorem isP_size {x : ByteArray} (h : isP x = true) : x.size ≤ 102 := by
  obtain ⟨⟨c, xs⟩, hp⟩ : ∃ q, parse x = q := ⟨_, rfl⟩
  have hc : c = 0 := by have := isP_iff.1 h; rw [hp] at this; exact this
  subst hc
  have hl := parse_len hp
  rw [← parse_back hp]
  exact place_size hl.1 hl.2
structure Sized (st : Int) (p : ByteArray) (k : Int) (l : List SeenT) : Prop where
  st : 0 ≤ st ∧ st ≤ 2147483647
  p : p.size ≤ 102
  k : 1 ≤ k ∧ k ≤ 3
  len : l.length ≤ 64
  each : ∀ s ∈ l, s.p.size ≤ 1000 ∧ s.d.size ≤ 1000
  asc : Asc l
theorem sized_of_good {st : Int} {p : ByteArray} {k : Int} {l : List SeenT} (h : Good st p k l) : Sized st p k l := by
  have h1 : 0 ≤ st ∧ st ≤ 2147483647 := by have := h.1; simpa [isNum] using this
  obtain ⟨h2, h3, h4⟩ := (cov_self k p).1 h.2.1
  refine ⟨h1, isP_size h2, ⟨h3, h4⟩, h.2.2.1, fun s hs => ?_, ?_⟩
  · obtain ⟨i, hi⟩ := List.getElem?_of_mem hs
    have hm := h.2.2.2.2 i s hi
    unfold mayB at hm
    simp only [Bool.and_eq_true] at hm
    have hc := (cov_in h2 ⟨h3, h4⟩).1 hm.1.1.1
    have hf := hm.1.1.2
    unfold fitB isNum at hf
    simp only [Bool.and_eq_true, decide_eq_true_eq] at hf
    have := isP_size hc.1
    omega
  · have := asc_of_may (k := k) (p := p) (l := l) l.length (Nat.le_refl _) (fun i n _ hn => h.2.2.2.2 i n hn)
    rw [List.take_length] at this
    exact this
/-- What a Diff answers. -/
structure DRes (st : Int) (p : ByteArray) (k : Int) (la : List SeenT) (st' : Int) (p' : ByteArray) (k' : Int) (lb : List SeenT) (code : Int) (D : List ChT) : Prop where
  bad : ¬ (Good st p k la ∧ Good st' p' k' lb) → code = 51 ∧ D = []
  apart : Good st p k la → Good st' p' k' lb → ¬ (p = p' ∧ k = k') → code = 1 ∧ D = []
  all : Good st p k la → Good st' p' k' lb → p = p' → k = k' → code = 0 ∧ D = (goneL la lb).reverse ++ turnL la lb
theorem DRes.one {st : Int} {p : ByteArray} {k : Int} {la : List SeenT} {st' : Int} {p' : ByteArray} {k' : Int} {lb : List SeenT} {c c' : Int} {D D' : List ChT} (h : DRes st p k la st' p' k' lb c D) (h' : DRes st p k la st' p' k' lb c' D') : c = c' ∧ D = D' := by
  by_cases hg : Good st p k la ∧ Good st' p' k' lb
  · by_cases he : p = p' ∧ k = k'
    · have h1 := h.all hg.1 hg.2 he.1 he.2
      have h2 := h'.all hg.1 hg.2 he.1 he.2
      exact ⟨h1.1.trans h2.1.symm, h1.2.trans h2.2.symm⟩
    · have h1 := h.apart hg.1 hg.2 he
      have h2 := h'.apart hg.1 hg.2 he
      exact ⟨h1.1.trans h2.1.symm, h1.2.trans h2.2.symm⟩
  · have h1 := h.bad hg
    have h2 := h'.bad hg
    exact ⟨h1.1.trans h2.1.symm, h1.2.trans h2.2.symm⟩
theorem DRes.len {st : Int} {p : ByteArray} {k : Int} {la : List SeenT} {st' : Int} {p' : ByteArray} {k' : Int} {lb : List SeenT} {c : Int} {D : List ChT} (h : DRes st p k la st' p' k' lb c D) : D.length ≤ 1000 := by
  by_cases hg : Good st p k la ∧ Good st' p' k' lb
  · by_cases he : p = p' ∧ k = k'
    · rw [(h.all hg.1 hg.2 he.1 he.2).2, List.length_append, List.length_reverse]
      have h1 := goneL_len la lb
      have h2 := turnL_len la lb
      have h3 := (sized_of_good hg.1).len
      have h4 := (sized_of_good hg.2).len
      omega
    · rw [(h.apart hg.1 hg.2 he).2]; simp
  · rw [(h.bad hg).2]; simp
/-- Two shots by value, in a frame. -/
structure TwoIn (w W : World) (A B : Array Value) : Prop where
  pa : W.heap[w.heap.size]? = some (.cells A 24 (0, 0))
  pb : W.heap[w.heap.size + 1]? = some (.cells B 24 (0, 0))
  low : Below w.heap.size w W
theorem TwoIn.start (w : World) (A B : Array Value) : TwoIn w ((w.alloc (.cells A 24)).alloc (.cells B 24)) A B := ⟨new_old (heap_alloc_new _ _) _, heap_new' (by simp), ((Below.refl _ _).alloc (Nat.le_refl _) _).alloc (by simp) _⟩
theorem TwoIn.below {w W W' : World} {A B : Array Value} (h : TwoIn w W A B) (hb : Below W.heap.size W W') : TwoIn w W' A B := ⟨kept_block hb h.pa, kept_block hb h.pb, trans2 h.low hb⟩
end Go.Proofs.YtkmiemjjedbnaaaDoor
