/-
  shot: bytes there and back.
-/
import Derived.Test.YtbamkdohaofgdaaGreatDoorFPure
import Derived.Test.YtbamkdohaofgdaaGreatDoorEShotD
namespace Go.Proofs.YtbamkdohaofgdaaGreatDoor.W
open Go.RowKit
set_option linter.unusedVariables false
set_option linter.unusedSimpArgs false

theorem str_of (s : ByteArray) : strOfNums (strL s) = s := by
  unfold strOfNums strL
  cases s with
  | mk d =>
    congr 1
    rw [List.map_map]
    have : ((fun n : Int => UInt8.ofNat n.toNat) ∘ fun b : UInt8 => (b.toNat : Int)) = id := by
      funext b
      simp
    rw [this, List.map_id]

/-- What was written is read again: the number. -/
theorem rd_back (p : List Int) (v : Nat) (r : List Int) (hv : v ≤ 2147483647) : rdAny (p.length : Int) (p ++ (numL v ++ r)) = ((v : Int), ((p.length + (numL v).length : Nat) : Int), 0) := by
  unfold rdAny
  rw [if_pos (by rw [List.length_append]; omega), Int.toNat_natCast, List.drop_left]
  have := rd_num (p.length : Int) r 5 0 0 v (by omega) (by omega) (.inl rfl) (by omega)
  rw [this]
  simp
/-- What was written is read again: the text. -/
theorem rt_back (p : List Int) (s : ByteArray) (r : List Int) (hs : s.size ≤ 262144) : rtAny (p.length : Int) (p ++ (textL s ++ r)) = (s, ((p.length + (textL s).length : Nat) : Int), 0) := by
  have e1 : textL s = numL s.size ++ strL s := by unfold textL; rw [if_pos hs]
  have e2 : p ++ (textL s ++ r) = p ++ (numL s.size ++ (strL s ++ r)) := by rw [e1, List.append_assoc]
  have h := rd_back p s.size (strL s ++ r) (by omega)
  rw [← e2] at h
  unfold rtAny
  rw [h]
  simp only [ne_eq, not_true_eq_false, if_false, Int.toNat_natCast]
  have hlen : (p ++ (textL s ++ r)).length = p.length + (numL s.size).length + s.size + r.length := by
    rw [e2, List.length_append, List.length_append, List.length_append, strL_len]
    omega
  rw [if_neg (by omega), if_neg (by rw [hlen]; omega)]
  have hd : (p ++ (textL s ++ r)).drop (p.length + (numL s.size).length) = strL s ++ r := by
    rw [e2, ← List.drop_drop, List.drop_left, List.drop_left]
  rw [hd, ← strL_len s, List.take_left, str_of, e1, List.length_append, strL_len]
  congr 2
  omega

theorem strL_of {ys : List Int} (h : Byt ys) : strL (strOfNums ys) = ys := by
  unfold strL
  rw [strOfNums_data, List.map_map]
  apply List.ext_getElem?
  intro j
  rw [List.getElem?_map]
  cases hj : ys[j]? with
  | none => rfl
  | some z =>
    have hz := h.at hj
    simp only [Option.map_some, Function.comp]
    rw [UInt8.toNat_ofNat']
    congr 1
    omega

/-- What is read as a number is what is written of it. -/
theorem rd_piece {at' : Int} {xs : List Int} {n b : Int} (hb : Byt xs) (h : rdAny at' xs = (n, b, 0)) :
    ∃ A B N : Nat, at' = A ∧ b = B ∧ n = N ∧ A < B ∧ B ≤ xs.length ∧ N ≤ 2147483647 ∧ (xs.drop A).take (B - A) = numL N := by
  have hk := rdAny_ok hb h
  obtain ⟨A, rfl⟩ := Int.eq_ofNat_of_zero_le hk.1
  obtain ⟨N, rfl⟩ := Int.eq_ofNat_of_zero_le hk.2.1
  obtain ⟨B, rfl⟩ := Int.eq_ofNat_of_zero_le (show 0 ≤ b by omega)
  refine ⟨A, B, N, rfl, rfl, rfl, by omega, by omega, by omega, ?_⟩
  have h1 := hk.2.2.2.2.2.1
  have h2 := hk.2.2.2.2.2.2
  simp only [Int.toNat_natCast] at h1 h2
  rw [h1, show B - A = (numL N).length by omega, List.take_left]

/-- What is read as a text is what is written of it. -/
theorem rt_piece {at' : Int} {xs : List Int} {s : ByteArray} {q : Int} (hb : Byt xs) (h : rtAny at' xs = (s, q, 0)) :
    (rdAny at' xs).2.2 = 0 ∧ ∃ A Q : Nat, at' = A ∧ q = Q ∧ A < Q ∧ Q ≤ xs.length ∧ s.size ≤ 262144 ∧ (xs.drop A).take (Q - A) = textL s := by
  obtain ⟨n, b, e, he⟩ : ∃ n b e, rdAny at' xs = (n, b, e) := ⟨_, _, _, rfl⟩
  unfold rtAny at h
  rw [he] at h
  simp only at h
  by_cases h0 : e = 0
  · subst h0
    refine ⟨by rw [he], ?_⟩
    rw [if_neg (by simp)] at h
    split at h
    · simp at h
    · rename_i h1
      split at h
      · simp at h
      · rename_i h2
        simp only [Prod.mk.injEq, and_true] at h
        have hk := rdAny_ok hb he
        obtain ⟨A, B, N, rfl, rfl, rfl, hAB, hBx, hN, hp⟩ := rd_piece hb he
        simp only [Int.toNat_natCast] at h
        have hlen : ((xs.drop B).take N).length = N := by rw [List.length_take, List.length_drop]; omega
        have hs : s.size = N := by rw [← h.1, strOfNums_size, hlen]
        refine ⟨A, B + N, rfl, by rw [← h.2]; simp, by omega, by omega, by omega, ?_⟩
        have e1 : textL s = numL N ++ (xs.drop B).take N := by
          unfold textL
          rw [if_pos (by omega), hs, ← h.1, strL_of ((hb.drop B).take N)]
        have hd := hk.2.2.2.2.2.1
        simp only [Int.toNat_natCast] at hd
        have h2' := hk.2.2.2.2.2.2
        simp only [Int.toNat_natCast] at h2'
        rw [e1, hd, show B + N - A = (numL N).length + N by omega, List.take_length_add_append]
  · rw [if_pos h0] at h
    simp only [Prod.mk.injEq] at h
    exact absurd h.2.2 h0


/-- Numbers and texts that are read again. -/
structure SOk (s : SeenT) : Prop where
  p : s.p.size ≤ 262144
  d : s.d.size ≤ 262144
  v : 0 ≤ s.v ∧ s.v ≤ 2147483647
theorem rdOne_back (P : List Int) (s : SeenT) (R : List Int) (h : SOk s) : rdOne (P ++ (seenL s ++ R)) (P.length : Int) = some (s, ((P.length + (seenL s).length : Nat) : Int)) := by
  have e0 : P ++ (seenL s ++ R) = P ++ (textL s.p ++ (textL s.d ++ (numL s.v.toNat ++ R))) := by unfold seenL; simp only [List.append_assoc]
  have e1 : P ++ (seenL s ++ R) = (P ++ textL s.p) ++ (textL s.d ++ (numL s.v.toNat ++ R)) := by rw [e0]; simp only [List.append_assoc]
  have e2 : P ++ (seenL s ++ R) = (P ++ textL s.p ++ textL s.d) ++ (numL s.v.toNat ++ R) := by rw [e0]; simp only [List.append_assoc]
  have h0 := rt_back P s.p (textL s.d ++ (numL s.v.toNat ++ R)) h.p
  have h1 := rt_back (P ++ textL s.p) s.d (numL s.v.toNat ++ R) h.d
  have h2 := rd_back (P ++ textL s.p ++ textL s.d) s.v.toNat R (by have := h.v; omega)
  rw [← e0] at h0
  rw [← e1, List.length_append] at h1
  rw [← e2, List.length_append, List.length_append] at h2
  rw [rdOne_4 h0 h1 h2]
  have hv : ((s.v.toNat : Nat) : Int) = s.v := Int.toNat_of_nonneg h.v.1
  rw [hv]
  congr 2
  unfold seenL
  simp only [List.length_append]
  omega
theorem seensL_snoc (l : List SeenT) (s : SeenT) : seensL (l ++ [s]) = seensL l ++ seenL s := by simp [seensL]
theorem rdMany_back (P : List Int) : ∀ (n : Nat) (l : List SeenT) (R : List Int), l.length = n → (∀ s ∈ l, SOk s) → rdMany (P ++ (seensL l ++ R)) (P.length : Int) n = some (l, ((P.length + (seensL l).length : Nat) : Int))
  | 0, l, R, hn, _ => by
    have : l = [] := List.eq_nil_of_length_eq_zero hn
    subst this
    simp [rdMany, seensL]
  | n + 1, l, R, hn, h => by
    obtain ⟨l', s, rfl⟩ : ∃ l' s, l = l' ++ [s] := ⟨l.dropLast, l.getLast (by intro e; rw [e] at hn; simp at hn), (List.dropLast_concat_getLast _).symm⟩
    have hn' : l'.length = n := by simpa using hn
    have ih := rdMany_back P n l' (seenL s ++ R) hn' (fun x hx => h x (by simp [hx]))
    have e : P ++ (seensL (l' ++ [s]) ++ R) = P ++ (seensL l' ++ (seenL s ++ R)) := by rw [seensL_snoc]; simp only [List.append_assoc]
    have e' : P ++ (seensL l' ++ (seenL s ++ R)) = (P ++ seensL l') ++ (seenL s ++ R) := by simp only [List.append_assoc]
    have h1 := rdOne_back (P ++ seensL l') s R (h s (by simp))
    rw [← e', List.length_append] at h1
    rw [e, rdMany_step ih h1, seensL_snoc]
    simp only [List.length_append]
    congr 2
    omega
theorem rdShot_back (st : Int) (p : ByteArray) (k : Int) (l : List SeenT) (hst : 0 ≤ st ∧ st ≤ 2147483647) (hp : p.size ≤ 262144) (hk : 0 ≤ k ∧ k ≤ 2147483647) (hl : l.length ≤ 64) (h : ∀ s ∈ l, SOk s) :
    rdShot (shotL st p k l) = some ⟨st, p, k, l, ((shotL st p k l).length : Int)⟩ := by
  have e0 : shotL st p k l = [] ++ (numL st.toNat ++ (textL p ++ (numL k.toNat ++ (numL l.length ++ seensL l)))) := rfl
  have e1 : shotL st p k l = numL st.toNat ++ (textL p ++ (numL k.toNat ++ (numL l.length ++ seensL l))) := rfl
  have e2 : shotL st p k l = (numL st.toNat ++ textL p) ++ (numL k.toNat ++ (numL l.length ++ seensL l)) := by rw [e1]; simp only [List.append_assoc]
  have e3 : shotL st p k l = (numL st.toNat ++ textL p ++ numL k.toNat) ++ (numL l.length ++ seensL l) := by rw [e1]; simp only [List.append_assoc]
  have e4 : shotL st p k l = (numL st.toNat ++ textL p ++ numL k.toNat ++ numL l.length) ++ (seensL l ++ []) := by rw [e1]; simp only [List.append_assoc, List.append_nil]
  have h0 := rd_back [] st.toNat (textL p ++ (numL k.toNat ++ (numL l.length ++ seensL l))) (by omega)
  have h1 := rt_back (numL st.toNat) p (numL k.toNat ++ (numL l.length ++ seensL l)) hp
  have h2 := rd_back (numL st.toNat ++ textL p) k.toNat (numL l.length ++ seensL l) (by omega)
  have h3 := rd_back (numL st.toNat ++ textL p ++ numL k.toNat) l.length (seensL l) (by omega)
  have h4 := rdMany_back (numL st.toNat ++ textL p ++ numL k.toNat ++ numL l.length) l.length l [] rfl h
  rw [← e0] at h0
  rw [← e1] at h1
  rw [← e2] at h2
  rw [← e3] at h3
  rw [← e4] at h4
  simp only [List.length_nil, List.length_append, Nat.zero_add, Int.natCast_zero] at h0 h1 h2 h3 h4
  have hh := rdHead_5 h0 h1 h2 h3
  have := rdShot_ok hh hl h4
  rw [this]
  have hv1 : ((st.toNat : Nat) : Int) = st := Int.toNat_of_nonneg hst.1
  have hv2 : ((k.toNat : Nat) : Int) = k := Int.toNat_of_nonneg hk.1
  rw [hv1, hv2]
  congr 2
  rw [e1]
  simp only [List.length_append]
  omega
theorem rd_drop {at' : Int} {xs : List Int} {n b : Int} (hb : Byt xs) (h : rdAny at' xs = (n, b, 0)) : ∃ A B : Nat, at' = A ∧ b = B ∧ B ≤ xs.length ∧ xs.drop A = numL n.toNat ++ xs.drop B := by
  obtain ⟨A, B, N, rfl, rfl, rfl, hAB, hB, _, hp⟩ := rd_piece hb h
  refine ⟨A, B, rfl, rfl, hB, ?_⟩
  rw [Int.toNat_natCast, ← hp]
  have e : xs.drop B = (xs.drop A).drop (B - A) := by rw [List.drop_drop]; congr 1; omega
  rw [e, List.take_append_drop]
theorem rt_drop {at' : Int} {xs : List Int} {s : ByteArray} {q : Int} (hb : Byt xs) (h : rtAny at' xs = (s, q, 0)) : ∃ A Q : Nat, at' = A ∧ q = Q ∧ Q ≤ xs.length ∧ xs.drop A = textL s ++ xs.drop Q := by
  obtain ⟨_, A, Q, rfl, rfl, hAQ, hQ, _, hp⟩ := rt_piece hb h
  refine ⟨A, Q, rfl, rfl, hQ, ?_⟩
  rw [← hp]
  have e : xs.drop Q = (xs.drop A).drop (Q - A) := by rw [List.drop_drop]; congr 1; omega
  rw [e, List.take_append_drop]
theorem rdOne_drop {xs : List Int} (hb : Byt xs) {at' b : Int} {s : SeenT} (h : rdOne xs at' = some (s, b)) : ∃ A B : Nat, at' = A ∧ b = B ∧ B ≤ xs.length ∧ xs.drop A = seenL s ++ xs.drop B := by
  rcases rt_split at' xs with h1 | ⟨p, a1, h1⟩
  · rw [rdOne_1 h1] at h; cases h
  rcases rt_split a1 xs with h2 | ⟨d, a2, h2⟩
  · rw [rdOne_2 h1 h2] at h; cases h
  rcases rd_split a2 xs with h3 | ⟨v, a3, h3⟩
  · rw [rdOne_3 h1 h2 h3] at h; cases h
  rw [rdOne_4 h1 h2 h3] at h
  simp only [Option.some.injEq, Prod.mk.injEq] at h
  obtain ⟨rfl, rfl⟩ := h
  obtain ⟨A, A1, rfl, rfl, _, e1⟩ := rt_drop hb h1
  obtain ⟨A1', A2, hA1, rfl, _, e2⟩ := rt_drop hb h2
  obtain ⟨A2', A3, hA2, rfl, hl, e3⟩ := rd_drop hb h3
  obtain rfl : A1 = A1' := by omega
  obtain rfl : A2 = A2' := by omega
  refine ⟨A, A3, rfl, rfl, hl, ?_⟩
  rw [e1, e2, e3]
  unfold seenL
  simp only [List.append_assoc]
theorem rdMany_drop {xs : List Int} (hb : Byt xs) (A : Nat) (hA : A ≤ xs.length) : ∀ (n : Nat) {l : List SeenT} {b : Int}, rdMany xs (A : Int) n = some (l, b) → ∃ B : Nat, b = B ∧ B ≤ xs.length ∧ xs.drop A = seensL l ++ xs.drop B
  | 0, l, b, h => by
    simp only [rdMany, Option.some.injEq, Prod.mk.injEq] at h
    obtain ⟨rfl, rfl⟩ := h
    exact ⟨A, rfl, hA, by simp [seensL]⟩
  | n + 1, l, b, h => by
    simp only [rdMany] at h
    split at h
    · cases h
    · rename_i r hr
      split at h
      · cases h
      · rename_i s hs
        simp only [Option.some.injEq, Prod.mk.injEq] at h
        obtain ⟨rfl, rfl⟩ := h
        obtain ⟨B, hB, hBl, e1⟩ := rdMany_drop hb A hA n (l := r.1) (b := r.2) hr
        obtain ⟨B', C, hB', hC, hCl, e2⟩ := rdOne_drop hb (s := s.1) (b := s.2) (at' := r.2) hs
        obtain rfl : B = B' := by omega
        exact ⟨C, hC, hCl, by rw [e1, e2, seensL_snoc, List.append_assoc]⟩
/-- Bytes that are read as a shot are what is written of it. -/
theorem rdShot_only {xs : List Int} (hb : Byt xs) {R : SaysT} (h : rdShot xs = some R) (ha : R.at' = xs.length) : shotL R.st R.p R.k R.l = xs := by
  unfold rdShot at h
  split at h
  · cases h
  · rename_i hd hh
    split at h
    · cases h
    · rename_i h64
      split at h
      · cases h
      · rename_i r hr
        cases h
        rcases rd_split 0 xs with h1 | ⟨st, a1, h1⟩
        · rw [rdHead_1 h1] at hh; cases hh
        rcases rt_split a1 xs with h2 | ⟨p, a2, h2⟩
        · rw [rdHead_2 h1 h2] at hh; cases hh
        rcases rd_split a2 xs with h3 | ⟨k, a3, h3⟩
        · rw [rdHead_3 h1 h2 h3] at hh; cases hh
        rcases rd_split a3 xs with h4 | ⟨n, a4, h4⟩
        · rw [rdHead_4 h1 h2 h3 h4] at hh; cases hh
        rw [rdHead_5 h1 h2 h3 h4] at hh
        cases hh
        obtain ⟨A0, A1, hA0, rfl, _, e1⟩ := rd_drop hb h1
        obtain ⟨A1', A2, hA1, rfl, _, e2⟩ := rt_drop hb h2
        obtain ⟨A2', A3, hA2, rfl, _, e3⟩ := rd_drop hb h3
        obtain ⟨A3', A4, hA3, rfl, hl4, e4⟩ := rd_drop hb h4
        obtain rfl : A0 = 0 := by omega
        obtain rfl : A1 = A1' := by omega
        obtain rfl : A2 = A2' := by omega
        obtain rfl : A3 = A3' := by omega
        simp only at hr ha
        obtain ⟨B, hB, hBl, e5⟩ := rdMany_drop hb A4 hl4 n.toNat (l := r.1) (b := r.2) hr
        have hlen := rdMany_len (l := r.1) (a1 := r.2) hr
        have hBx : B = xs.length := by omega
        rw [hBx, List.drop_length, List.append_nil] at e5
        show numL st.toNat ++ (textL p ++ (numL k.toNat ++ (numL r.1.length ++ seensL r.1))) = xs
        rw [hlen, ← e5, ← e4, ← e3, ← e2, ← e1]
        rfl
end Go.Proofs.YtbamkdohaofgdaaGreatDoor.W
