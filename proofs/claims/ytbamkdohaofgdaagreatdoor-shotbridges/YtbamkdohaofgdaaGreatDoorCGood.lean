import Derived.Test.YtbamkdohaofgdaaGreatDoorCCheck
namespace Go.Proofs.YtbamkdohaofgdaaGreatDoor
open Go.RowKit
set_option linter.unusedVariables false
set_option linter.unusedSimpArgs false

def belP (p x : ByteArray) : Bool := decide (Bel (parse p).2 (parse x).2)
def inB (k : Int) (p x : ByteArray) : Bool := decide (x = p) || (if k = 2 then decide (upP x = p) else decide (k = 3) && belP p x)
end Go.Proofs.YtbamkdohaofgdaaGreatDoor
namespace Go.Proofs.YtbamkdohaofgdaaGreatDoor
open Go.RowKit Classical
set_option linter.unusedVariables false
set_option linter.unusedSimpArgs false

def RMay (k : Int) (p : ByteArray) (l : List SeenT) (i : Nat) (x : SeenT) : Prop :=
  isP x.p = true ∧ inB k p x.p = true ∧ fitB x.d x.v = true ∧ (∀ y, 0 < i → l[i - 1]? = some y → O y.p x.p < 0) ∧ bareB k x = true ∧ (x.p = p ∨ hasP l (upP x.p) = true)
def RGood (st : Int) (p : ByteArray) (k : Int) (l : List SeenT) : Prop := isNum st = true ∧ isP p = true ∧ (1 ≤ k ∧ k ≤ 3) ∧ l.length ≤ 64 ∧ ¬ (p = pRoot ∧ l = []) ∧ ∀ (i : Nat) (x : SeenT), l[i]? = some x → RMay k p l i x
def rchk (st : Int) (p : ByteArray) (k : Int) (l : List SeenT) [Decidable (RGood st p k l)] : Int := if RGood st p k l then 0 else 51
theorem rchk_bad {st : Int} {p : ByteArray} {k : Int} {l : List SeenT} (h : ¬ RGood st p k l) : rchk st p k l = 51 := if_neg h
theorem rchk_good {st : Int} {p : ByteArray} {k : Int} {l : List SeenT} (h : RGood st p k l) : rchk st p k l = 0 := if_pos h
/-- What stands within a round. -/
structure FC (w W : World) (g : Nat) (A N : Array Value) : Prop where
  pa : W.heap[w.heap.size]? = some (.cells A 24 (0, 0))
  pn : W.heap[g]? = some (.cells N 52 (0, 0))
  low : Below w.heap.size w W
theorem FC.below {w W W' : World} {g : Nat} {A N : Array Value} (h : FC w W g A N) (hb : Below W.heap.size W W') : FC w W' g A N := ⟨kept_block hb h.pa, kept_block hb h.pn, trans2 h.low hb⟩
theorem rmay_step {k : Int} {p : ByteArray} {l : List SeenT} {q : Nat} {x : SeenT} (h : ∀ (i : Nat) (n : SeenT), i < q → l[i]? = some n → RMay k p l i n) (hx : l[q]? = some x) (hr : RMay k p l q x) : ∀ (i : Nat) (n : SeenT), i < q + 1 → l[i]? = some n → RMay k p l i n := by
  intro i n hi hn
  by_cases hiq : i = q
  · subst hiq
    rw [hx] at hn
    cases hn
    exact hr
  · exact h i n (by omega) hn
end Go.Proofs.YtbamkdohaofgdaaGreatDoor
namespace Go.Proofs.YtbamkdohaofgdaaGreatDoor
open Go.RowKit Classical
set_option linter.unusedVariables false
set_option linter.unusedSimpArgs false

/-- A proper beginning stands ahead. -/
theorem ordL_pre : ∀ (s t : List UInt8), t ≠ [] → ordL s (s ++ t) = -1
  | [], [], h => absurd rfl h
  | [], b :: t, _ => by
    simp [ordL, sg]
    try omega
  | c :: s, t, h => by
    have ih := ordL_pre s t h
    simpa [ordL] using ih
theorem up_pre {x : ByteArray} (h1 : (parse x).1 = 0) (h2 : (parse x).2 ≠ []) : O (upP x) x = -1 := by
  obtain ⟨⟨c, xs⟩, hp⟩ : ∃ q, parse x = q := ⟨_, rfl⟩
  rw [hp] at h1 h2
  simp only at h1 h2
  subst h1
  have hx := parse_back hp
  have hu : upP x = placeB (xs.take (xs.length - 1)) := by simp [upP, hp, h2]
  rw [O_list, hu]
  have hlast : xs = xs.take (xs.length - 1) ++ [xs.getLast h2] := by
    rw [← List.dropLast_eq_take]
    exact (List.dropLast_concat_getLast h2).symm
  have hall := (parse_len hp).2
  have hnm : isNm (xs.getLast h2) = true := (List.all_eq_true.1 hall) _ (List.getLast_mem h2)
  have hxd : x.data.toList = flatN xs := by rw [← hx]; unfold placeB; rw [if_neg h2, data_mk]
  have hs0 : ∀ A z, xs = A ++ [z] → flatN xs = flatN A ++ (47 :: z.data.toList) := fun A z h => by rw [h]; simp [flatN]
  have hsplit := hs0 _ _ hlast
  rw [hxd, hsplit]
  unfold placeB
  by_cases h0 : xs.take (xs.length - 1) = []
  · rw [if_pos h0, data_mk, h0]
    show ordL [47] (flatN [] ++ (47 :: (xs.getLast h2).data.toList)) = -1
    rw [show flatN [] ++ (47 :: (xs.getLast h2).data.toList) = [47] ++ (xs.getLast h2).data.toList by simp [flatN]]
    exact ordL_pre _ _ (nm_nonempty hnm)
  · rw [if_neg h0, data_mk]
    exact ordL_pre _ _ (by simp)
theorem isP_iff {x : ByteArray} : isP x = true ↔ (parse x).1 = 0 := by unfold isP; simp
/-- covers of a change that makes. -/
theorem cov_self (k : Int) (p : ByteArray) : covers k p 1 p = true ↔ isP p = true ∧ 1 ≤ k ∧ k ≤ 3 := by
  have he : eqB p p = true := by simp [eqB]
  have h1 : okC 1 = true := by decide
  unfold covers cov
  rw [he, h1]
  cases hp : isP p with
  | false => simp
  | true =>
    simp only [Bool.and_true, Bool.true_and, Bool.true_or, true_and]
    by_cases k1 : k = 1
    · subst k1; simp
    · by_cases k2 : k = 2
      · subst k2; simp
      · by_cases k3 : k = 3
        · subst k3; simp
        · simp [k1, k2, k3]; omega
theorem child_up {p x : ByteArray} (hp : isP p = true) (hx : isP x = true) : childB p x = true ↔ upP x = p := by
  obtain ⟨⟨c, xs⟩, hq⟩ : ∃ q, parse x = q := ⟨_, rfl⟩
  have hc : c = 0 := by have := isP_iff.1 hx; rw [hq] at this; exact this
  subst hc
  by_cases hn : xs = []
  · subst hn
    have h1 : childB p x = false := by simp [childB, hq]
    have h2 : upP x = ⟨#[]⟩ := by simp [upP, hq]
    rw [h1, h2]
    constructor
    · intro h; cases h
    · intro h
      rw [← h] at hp
      exact absurd hp (by decide)
  · have h1 : childB p x = ((placeB (xs.take (xs.length - 1))).toList == p.toList) := by
      simp [childB, hq, hn]
    have h2 : upP x = placeB (xs.take (xs.length - 1)) := by simp [upP, hq, hn]
    rw [h1, h2, eqL, decide_eq_true_eq]
theorem cov_in {k : Int} {p x : ByteArray} (hp : isP p = true) (hk : 1 ≤ k ∧ k ≤ 3) : covers k p 1 x = true ↔ isP x = true ∧ inB k p x = true := by
  have h1 : okC 1 = true := by decide
  unfold covers
  rw [hp, h1]
  cases hx : isP x with
  | false => simp
  | true =>
    simp only [Bool.true_and, Bool.and_true, true_and]
    have hch := child_up hp hx
    have heq : eqB x p = decide (x = p) := eqL x p
    unfold cov inB
    rw [heq]
    rcases (show k = 1 ∨ k = 2 ∨ k = 3 by omega) with rfl | rfl | rfl
    · simp
    · simp [hch]
    · simp [belB, belP]
theorem isP_root : isP pRoot = true := by decide
/-- Below a place there is a place above. -/
theorem in_names {k : Int} {p x : ByteArray} (hk : 1 ≤ k ∧ k ≤ 3) (hp : isP p = true) (hx : isP x = true) (hi : inB k p x = true) (hne : x ≠ p) : (parse x).2 ≠ [] := by
  intro h0
  unfold inB at hi
  rw [decide_eq_false hne, Bool.false_or] at hi
  split at hi
  · have : upP x = p := by simpa using hi
    have hu : upP x = ⟨#[]⟩ := by simp [upP, h0]
    rw [← this, hu] at hp
    exact absurd hp (by decide)
  · simp only [Bool.and_eq_true, decide_eq_true_eq, belP] at hi
    have := hi.2.1
    rw [h0] at this
    simp at this
theorem rgood_asc {st : Int} {p : ByteArray} {k : Int} {l : List SeenT} (h : RGood st p k l) : Asc l := by
  have step : ∀ (i : Nat) (x y : SeenT), l[i]? = some x → l[i + 1]? = some y → O x.p y.p = -1 := fun i x y hx hy => by
    have := (h.2.2.2.2.2 (i + 1) y hy).2.2.2.1 x (by omega) (by simpa using hx)
    have := O_range x.p y.p
    omega
  intro i j x y hij hx hy
  obtain ⟨d, rfl⟩ : ∃ d, j = i + 1 + d := ⟨j - (i + 1), by omega⟩
  clear hij
  induction d generalizing y with
  | zero => exact step i x y hx hy
  | succ d ih =>
    obtain ⟨z, hz⟩ : ∃ z, l[i + 1 + d]? = some z := ⟨l[i + 1 + d]'(by have := (List.getElem?_eq_some_iff.1 hy).1; omega), List.getElem?_eq_getElem _⟩
    exact O_trans (ih z hz) (step (i + 1 + d) z y hz hy)
theorem asc_lt {l : List SeenT} (h : Asc l) {i j : Nat} {x y : SeenT} (hx : l[i]? = some x) (hy : l[j]? = some y) (ho : O x.p y.p = -1) : i < j := by
  rcases Nat.lt_trichotomy i j with h1 | h1 | h1
  · exact h1
  · subst h1
    rw [hx] at hy
    cases hy
    rw [O_self] at ho
    omega
  · have := h j i y x h1 hy hx
    rw [O_anti, this] at ho
    omega
theorem last_take {l : List SeenT} {i : Nat} (hi : i < l.length) (h0 : 0 < i) : (l.take i).getLast? = l[i - 1]? := by
  rw [List.getLast?_eq_getElem?, List.length_take, List.getElem?_take, if_pos (by omega), show min i l.length - 1 = i - 1 by omega]
theorem good_iff (st : Int) (p : ByteArray) (k : Int) (l : List SeenT) : Good st p k l ↔ RGood st p k l := by
  constructor
  · rintro ⟨h1, h2, h3, h4, h5⟩
    obtain ⟨hp, hk1, hk2⟩ := (cov_self k p).1 h2
    refine ⟨h1, hp, ⟨hk1, hk2⟩, h3, h4, fun i x hx => ?_⟩
    have hil : i < l.length := (List.getElem?_eq_some_iff.1 hx).1
    have hm := h5 i x hx
    unfold mayB at hm
    simp only [Bool.and_eq_true] at hm
    obtain ⟨⟨⟨m1, m2⟩, m3⟩, m4⟩ := hm
    obtain ⟨hxp, hin⟩ := (cov_in hp ⟨hk1, hk2⟩).1 m1
    unfold behindB at m4
    rcases Nat.eq_zero_or_pos i with hi0 | hi0
    · subst hi0
      simp only [List.take_zero, List.getLast?_nil, decide_eq_true_eq] at m4
      exact ⟨hxp, hin, m2, (fun y h => by omega), m3, .inl m4⟩
    · obtain ⟨t, ht⟩ : ∃ t, l[i - 1]? = some t := ⟨l[i - 1]'(by omega), List.getElem?_eq_getElem _⟩
      rw [last_take hil hi0, ht] at m4
      simp only [Bool.and_eq_true, decide_eq_true_eq] at m4
      refine ⟨hxp, hin, m2, (fun y _ hy => ?_), m3, .inr ?_⟩
      · rw [ht] at hy
        cases hy
        exact m4.1
      · obtain ⟨s, hs, he⟩ := hasP_iff.1 m4.2
        exact hasP_iff.2 ⟨s, List.mem_of_mem_take hs, he⟩
  · intro h
    have hasc := rgood_asc h
    obtain ⟨h1, hp, hk, h3, h4, h5⟩ := h
    have hfirst : ∀ x, l[0]? = some x → x.p = p := fun x hx => by
      obtain ⟨hxp, hin, _, _, _, hpar⟩ := h5 0 x hx
      rcases hpar with he | he
      · exact he
      · refine Classical.byContradiction fun hne => ?_
        obtain ⟨s, hs, hse⟩ := hasP_iff.1 he
        obtain ⟨j, hj⟩ := List.getElem?_of_mem hs
        have := asc_lt hasc hj hx (by rw [hse]; exact up_pre (isP_iff.1 hxp) (in_names hk hp hxp hin hne))
        omega
    refine ⟨h1, (cov_self k p).2 ⟨hp, hk⟩, h3, h4, fun i x hx => ?_⟩
    have hil : i < l.length := (List.getElem?_eq_some_iff.1 hx).1
    obtain ⟨hxp, hin, m2, mo, m3, hpar⟩ := h5 i x hx
    unfold mayB
    rw [(cov_in hp hk).2 ⟨hxp, hin⟩, m2, m3, Bool.true_and, Bool.true_and, Bool.true_and]
    unfold behindB
    rcases Nat.eq_zero_or_pos i with hi0 | hi0
    · subst hi0
      simp only [List.take_zero, List.getLast?_nil, decide_eq_true_eq]
      exact hfirst x hx
    · obtain ⟨t, ht⟩ : ∃ t, l[i - 1]? = some t := ⟨l[i - 1]'(by omega), List.getElem?_eq_getElem _⟩
      rw [last_take hil hi0, ht]
      simp only [Bool.and_eq_true, decide_eq_true_eq]
      refine ⟨mo t hi0 ht, ?_⟩
      obtain ⟨f, hf⟩ : ∃ f, l[0]? = some f := ⟨l[0]'(by omega), List.getElem?_eq_getElem _⟩
      have hne : x.p ≠ p := fun e => by
        have := hasc 0 i f x hi0 hf hx
        rw [hfirst f hf, e, O_self] at this
        omega
      rcases hpar with he | he
      · exact absurd he hne
      · obtain ⟨s, hs, hse⟩ := hasP_iff.1 he
        obtain ⟨j, hj⟩ := List.getElem?_of_mem hs
        have hji := asc_lt hasc hj hx (by rw [hse]; exact up_pre (isP_iff.1 hxp) (in_names hk hp hxp hin hne))
        exact hasP_iff.2 ⟨s, List.mem_of_getElem? (i := j) (by rw [List.getElem?_take, if_pos hji]; exact hj), hse⟩
theorem chk_eq (st : Int) (p : ByteArray) (k : Int) (l : List SeenT) : chk st p k l = rchk st p k l := by
  by_cases h : Good st p k l
  · rw [chk_good h, rchk_good ((good_iff st p k l).1 h)]
  · rw [chk_bad h, rchk_bad (fun h' => h ((good_iff st p k l).2 h'))]
end Go.Proofs.YtbamkdohaofgdaaGreatDoor
