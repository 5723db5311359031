import Derived.Test.YtponpkfdkdnaeaaGreatDoorFPure
import Derived.Test.YtponpkfdkdnaeaaGreatDoorEShotD
import Derived.Test.YtponpkfdkdnaeaaGreatDoorTBase
import Derived.Test.YtponpkfdkdnaeaaGreatDoorLine
import Derived.Test.YtponpkfdkdnaeaaGreatDoorShelfG
import Derived.Test.YtponpkfdkdnaeaaGreatDoorTWatch
import Derived.Shelf.SlSortCmp.Whole1
import Derived.Sort.OwnSorted
import Derived.Sort.KeysCollected
import Derived.Test.YtponpkfdkdnaeaaGreatDoorTPart
import Derived.Test.YtponpkfdkdnaeaaGreatDoorSTurned
import Derived.Test.YtponpkfdkdnaeaaGreatDoorCSmall
import Derived.Test.YtponpkfdkdnaeaaGreatDoorCMay
import Derived.Test.YtponpkfdkdnaeaaGreatDoorEShot
import Derived.Test.YtponpkfdkdnaeaaGreatDoorCGood
import Derived.Test.YtponpkfdkdnaeaaGreatDoorGFoldC
import Derived.Test.YtponpkfdkdnaeaaGreatDoorGFold3C
import Derived.Test.YtponpkfdkdnaeaaGreatDoorTPlay3
import Derived.Test.YtponpkfdkdnaeaaGreatDoorDDiff
namespace Go.Proofs.YtponpkfdkdnaeaaGreatDoor.W
open Go.RowKit
set_option linter.unusedVariables false
set_option linter.unusedSimpArgs false

theorem str_of (s : ByteArray) : strOfNums (strL s) = s := by
  unfold strOfNums strL
  cases s with
  | mk d =>
    congr 1
    rw [List.map_map]
    have : ((fun n : Int => UInt8.ofNat n.toNat) ∘ fun b : UInt8 => (b.toNat : Int)) = id := by
      funext b
      simp
    rw [this, List.map_id]

/-- What was written is read again: the number. -/
theorem rd_back (p : List Int) (v : Nat) (r : List Int) (hv : v ≤ 2147483647) : rdAny (p.length : Int) (p ++ (numL v ++ r)) = ((v : Int), ((p.length + (numL v).length : Nat) : Int), 0) := by
  unfold rdAny
  rw [if_pos (by rw [List.length_append]; omega), Int.toNat_natCast, List.drop_left]
  have := rd_num (p.length : Int) r 5 0 0 v (by omega) (by omega) (.inl rfl) (by omega)
  rw [this]
  simp
/-- What was written is read again: the text. -/
theorem rt_back (p : List Int) (s : ByteArray) (r : List Int) (hs : s.size ≤ 262144) : rtAny (p.length : Int) (p ++ (textL s ++ r)) = (s, ((p.length + (textL s).length : Nat) : Int), 0) := by
  have e1 : textL s = numL s.size ++ strL s := by unfold textL; rw [if_pos hs]
  have e2 : p ++ (textL s ++ r) = p ++ (numL s.size ++ (strL s ++ r)) := by rw [e1, List.append_assoc]
  have h := rd_back p s.size (strL s ++ r) (by omega)
  rw [← e2] at h
  unfold rtAny
  rw [h]
  simp only [ne_eq, not_true_eq_false, if_false, Int.toNat_natCast]
  have hlen : (p ++ (textL s ++ r)).length = p.length + (numL s.size).length + s.size + r.length := by
    rw [e2, List.length_append, List.length_append, List.length_append, strL_len]
    omega
  rw [if_neg (by omega), if_neg (by rw [hlen]; omega)]
  have hd : (p ++ (textL s ++ r)).drop (p.length + (numL s.size).length) = strL s ++ r := by
    rw [e2, ← List.drop_drop, List.drop_left, List.drop_left]
  rw [hd, ← strL_len s, List.take_left, str_of, e1, List.length_append, strL_len]
  congr 2
  omega

theorem strL_of {ys : List Int} (h : Byt ys) : strL (strOfNums ys) = ys := by
  unfold strL
  rw [strOfNums_data, List.map_map]
  apply List.ext_getElem?
  intro j
  rw [List.getElem?_map]
  cases hj : ys[j]? with
  | none => rfl
  | some z =>
    have hz := h.at hj
    simp only [Option.map_some, Function.comp]
    rw [UInt8.toNat_ofNat']
    congr 1
    omega

/-- What is read as a number is what is written of it. -/
theorem rd_piece {at' : Int} {xs : List Int} {n b : Int} (hb : Byt xs) (h : rdAny at' xs = (n, b, 0)) :
    ∃ A B N : Nat, at' = A ∧ b = B ∧ n = N ∧ A < B ∧ B ≤ xs.length ∧ N ≤ 2147483647 ∧ (xs.drop A).take (B - A) = numL N := by
  have hk := rdAny_ok hb h
  obtain ⟨A, rfl⟩ := Int.eq_ofNat_of_zero_le hk.1
  obtain ⟨N, rfl⟩ := Int.eq_ofNat_of_zero_le hk.2.1
  obtain ⟨B, rfl⟩ := Int.eq_ofNat_of_zero_le (show 0 ≤ b by omega)
  refine ⟨A, B, N, rfl, rfl, rfl, by omega, by omega, by omega, ?_⟩
  have h1 := hk.2.2.2.2.2.1
  have h2 := hk.2.2.2.2.2.2
  simp only [Int.toNat_natCast] at h1 h2
  rw [h1, show B - A = (numL N).length by omega, List.take_left]

/-- What is read as a text is what is written of it. -/
theorem rt_piece {at' : Int} {xs : List Int} {s : ByteArray} {q : Int} (hb : Byt xs) (h : rtAny at' xs = (s, q, 0)) :
    (rdAny at' xs).2.2 = 0 ∧ ∃ A Q : Nat, at' = A ∧ q = Q ∧ A < Q ∧ Q ≤ xs.length ∧ s.size ≤ 262144 ∧ (xs.drop A).take (Q - A) = textL s := by
  obtain ⟨n, b, e, he⟩ : ∃ n b e, rdAny at' xs = (n, b, e) := ⟨_, _, _, rfl⟩
  unfold rtAny at h
  rw [he] at h
  simp only at h
  by_cases h0 : e = 0
  · subst h0
    refine ⟨by rw [he], ?_⟩
    rw [if_neg (by simp)] at h
    split at h
    · simp at h
    · rename_i h1
      split at h
      · simp at h
      · rename_i h2
        simp only [Prod.mk.injEq, and_true] at h
        have hk := rdAny_ok hb he
        obtain ⟨A, B, N, rfl, rfl, rfl, hAB, hBx, hN, hp⟩ := rd_piece hb he
        simp only [Int.toNat_natCast] at h
        have hlen : ((xs.drop B).take N).length = N := by rw [List.length_take, List.length_drop]; omega
        have hs : s.size = N := by rw [← h.1, strOfNums_size, hlen]
        refine ⟨A, B + N, rfl, by rw [← h.2]; simp, by omega, by omega, by omega, ?_⟩
        have e1 : textL s = numL N ++ (xs.drop B).take N := by
          unfold textL
          rw [if_pos (by omega), hs, ← h.1, strL_of ((hb.drop B).take N)]
        have hd := hk.2.2.2.2.2.1
        simp only [Int.toNat_natCast] at hd
        have h2' := hk.2.2.2.2.2.2
        simp only [Int.toNat_natCast] at h2'
        rw [e1, hd, show B + N - A = (numL N).length + N by omega, List.take_length_add_append]
  · rw [if_pos h0] at h
    simp only [Prod.mk.injEq] at h
    exact absurd h.2.2 h0


/-- Numbers and texts that are read again. -/
structure SOk (s : SeenT) : Prop where
  p : s.p.size ≤ 262144
  d : s.d.size ≤ 262144
  v : 0 ≤ s.v ∧ s.v ≤ 2147483647
theorem rdOne_back (P : List Int) (s : SeenT) (R : List Int) (h : SOk s) : rdOne (P ++ (seenL s ++ R)) (P.length : Int) = some (s, ((P.length + (seenL s).length : Nat) : Int)) := by
  have e0 : P ++ (seenL s ++ R) = P ++ (textL s.p ++ (textL s.d ++ (numL s.v.toNat ++ R))) := by unfold seenL; simp only [List.append_assoc]
  have e1 : P ++ (seenL s ++ R) = (P ++ textL s.p) ++ (textL s.d ++ (numL s.v.toNat ++ R)) := by rw [e0]; simp only [List.append_assoc]
  have e2 : P ++ (seenL s ++ R) = (P ++ textL s.p ++ textL s.d) ++ (numL s.v.toNat ++ R) := by rw [e0]; simp only [List.append_assoc]
  have h0 := rt_back P s.p (textL s.d ++ (numL s.v.toNat ++ R)) h.p
  have h1 := rt_back (P ++ textL s.p) s.d (numL s.v.toNat ++ R) h.d
  have h2 := rd_back (P ++ textL s.p ++ textL s.d) s.v.toNat R (by have := h.v; omega)
  rw [← e0] at h0
  rw [← e1, List.length_append] at h1
  rw [← e2, List.length_append, List.length_append] at h2
  rw [rdOne_4 h0 h1 h2]
  have hv : ((s.v.toNat : Nat) : Int) = s.v := Int.toNat_of_nonneg h.v.1
  rw [hv]
  congr 2
  unfold seenL
  simp only [List.length_append]
  omega
theorem seensL_snoc (l : List SeenT) (s : SeenT) : seensL (l ++ [s]) = seensL l ++ seenL s := by simp [seensL]
theorem rdMany_back (P : List Int) : ∀ (n : Nat) (l : List SeenT) (R : List Int), l.length = n → (∀ s ∈ l, SOk s) → rdMany (P ++ (seensL l ++ R)) (P.length : Int) n = some (l, ((P.length + (seensL l).length : Nat) : Int))
  | 0, l, R, hn, _ => by
    have : l = [] := List.eq_nil_of_length_eq_zero hn
    subst this
    simp [rdMany, seensL]
  | n + 1, l, R, hn, h => by
    obtain ⟨l', s, rfl⟩ : ∃ l' s, l = l' ++ [s] := ⟨l.dropLast, l.getLast (by intro e; rw [e] at hn; simp at hn), (List.dropLast_concat_getLast _).symm⟩
    have hn' : l'.length = n := by simpa using hn
    have ih := rdMany_back P n l' (seenL s ++ R) hn' (fun x hx => h x (by simp [hx]))
    have e : P ++ (seensL (l' ++ [s]) ++ R) = P ++ (seensL l' ++ (seenL s ++ R)) := by rw [seensL_snoc]; simp only [List.append_assoc]
    have e' : P ++ (seensL l' ++ (seenL s ++ R)) = (P ++ seensL l') ++ (seenL s ++ R) := by simp only [List.append_assoc]
    have h1 := rdOne_back (P ++ seensL l') s R (h s (by simp))
    rw [← e', List.length_append] at h1
    rw [e, rdMany_step ih h1, seensL_snoc]
    simp only [List.length_append]
    congr 2
    omega
theorem rdShot_back (st : Int) (p : ByteArray) (k : Int) (l : List SeenT) (hst : 0 ≤ st ∧ st ≤ 2147483647) (hp : p.size ≤ 262144) (hk : 0 ≤ k ∧ k ≤ 2147483647) (hl : l.length ≤ 64) (h : ∀ s ∈ l, SOk s) :
    rdShot (shotL st p k l) = some ⟨st, p, k, l, ((shotL st p k l).length : Int)⟩ := by
  have e0 : shotL st p k l = [] ++ (numL st.toNat ++ (textL p ++ (numL k.toNat ++ (numL l.length ++ seensL l)))) := rfl
  have e1 : shotL st p k l = numL st.toNat ++ (textL p ++ (numL k.toNat ++ (numL l.length ++ seensL l))) := rfl
  have e2 : shotL st p k l = (numL st.toNat ++ textL p) ++ (numL k.toNat ++ (numL l.length ++ seensL l)) := by rw [e1]; simp only [List.append_assoc]
  have e3 : shotL st p k l = (numL st.toNat ++ textL p ++ numL k.toNat) ++ (numL l.length ++ seensL l) := by rw [e1]; simp only [List.append_assoc]
  have e4 : shotL st p k l = (numL st.toNat ++ textL p ++ numL k.toNat ++ numL l.length) ++ (seensL l ++ []) := by rw [e1]; simp only [List.append_assoc, List.append_nil]
  have h0 := rd_back [] st.toNat (textL p ++ (numL k.toNat ++ (numL l.length ++ seensL l))) (by omega)
  have h1 := rt_back (numL st.toNat) p (numL k.toNat ++ (numL l.length ++ seensL l)) hp
  have h2 := rd_back (numL st.toNat ++ textL p) k.toNat (numL l.length ++ seensL l) (by omega)
  have h3 := rd_back (numL st.toNat ++ textL p ++ numL k.toNat) l.length (seensL l) (by omega)
  have h4 := rdMany_back (numL st.toNat ++ textL p ++ numL k.toNat ++ numL l.length) l.length l [] rfl h
  rw [← e0] at h0
  rw [← e1] at h1
  rw [← e2] at h2
  rw [← e3] at h3
  rw [← e4] at h4
  simp only [List.length_nil, List.length_append, Nat.zero_add, Int.natCast_zero] at h0 h1 h2 h3 h4
  have hh := rdHead_5 h0 h1 h2 h3
  have := rdShot_ok hh hl h4
  rw [this]
  have hv1 : ((st.toNat : Nat) : Int) = st := Int.toNat_of_nonneg hst.1
  have hv2 : ((k.toNat : Nat) : Int) = k := Int.toNat_of_nonneg hk.1
  rw [hv1, hv2]
  congr 2
  rw [e1]
  simp only [List.length_append]
  omega
theorem rd_drop {at' : Int} {xs : List Int} {n b : Int} (hb : Byt xs) (h : rdAny at' xs = (n, b, 0)) : ∃ A B : Nat, at' = A ∧ b = B ∧ B ≤ xs.length ∧ xs.drop A = numL n.toNat ++ xs.drop B := by
  obtain ⟨A, B, N, rfl, rfl, rfl, hAB, hB, _, hp⟩ := rd_piece hb h
  refine ⟨A, B, rfl, rfl, hB, ?_⟩
  rw [Int.toNat_natCast, ← hp]
  have e : xs.drop B = (xs.drop A).drop (B - A) := by rw [List.drop_drop]; congr 1; omega
  rw [e, List.take_append_drop]
theorem rt_drop {at' : Int} {xs : List Int} {s : ByteArray} {q : Int} (hb : Byt xs) (h : rtAny at' xs = (s, q, 0)) : ∃ A Q : Nat, at' = A ∧ q = Q ∧ Q ≤ xs.length ∧ xs.drop A = textL s ++ xs.drop Q := by
  obtain ⟨_, A, Q, rfl, rfl, hAQ, hQ, _, hp⟩ := rt_piece hb h
  refine ⟨A, Q, rfl, rfl, hQ, ?_⟩
  rw [← hp]
  have e : xs.drop Q = (xs.drop A).drop (Q - A) := by rw [List.drop_drop]; congr 1; omega
  rw [e, List.take_append_drop]
theorem rdOne_drop {xs : List Int} (hb : Byt xs) {at' b : Int} {s : SeenT} (h : rdOne xs at' = some (s, b)) : ∃ A B : Nat, at' = A ∧ b = B ∧ B ≤ xs.length ∧ xs.drop A = seenL s ++ xs.drop B := by
  rcases rt_split at' xs with h1 | ⟨p, a1, h1⟩
  · rw [rdOne_1 h1] at h; cases h
  rcases rt_split a1 xs with h2 | ⟨d, a2, h2⟩
  · rw [rdOne_2 h1 h2] at h; cases h
  rcases rd_split a2 xs with h3 | ⟨v, a3, h3⟩
  · rw [rdOne_3 h1 h2 h3] at h; cases h
  rw [rdOne_4 h1 h2 h3] at h
  simp only [Option.some.injEq, Prod.mk.injEq] at h
  obtain ⟨rfl, rfl⟩ := h
  obtain ⟨A, A1, rfl, rfl, _, e1⟩ := rt_drop hb h1
  obtain ⟨A1', A2, hA1, rfl, _, e2⟩ := rt_drop hb h2
  obtain ⟨A2', A3, hA2, rfl, hl, e3⟩ := rd_drop hb h3
  obtain rfl : A1 = A1' := by omega
  obtain rfl : A2 = A2' := by omega
  refine ⟨A, A3, rfl, rfl, hl, ?_⟩
  rw [e1, e2, e3]
  unfold seenL
  simp only [List.append_assoc]
theorem rdMany_drop {xs : List Int} (hb : Byt xs) (A : Nat) (hA : A ≤ xs.length) : ∀ (n : Nat) {l : List SeenT} {b : Int}, rdMany xs (A : Int) n = some (l, b) → ∃ B : Nat, b = B ∧ B ≤ xs.length ∧ xs.drop A = seensL l ++ xs.drop B
  | 0, l, b, h => by
    simp only [rdMany, Option.some.injEq, Prod.mk.injEq] at h
    obtain ⟨rfl, rfl⟩ := h
    exact ⟨A, rfl, hA, by simp [seensL]⟩
  | n + 1, l, b, h => by
    simp only [rdMany] at h
    split at h
    · cases h
    · rename_i r hr
      split at h
      · cases h
      · rename_i s hs
        simp only [Option.some.injEq, Prod.mk.injEq] at h
        obtain ⟨rfl, rfl⟩ := h
        obtain ⟨B, hB, hBl, e1⟩ := rdMany_drop hb A hA n (l := r.1) (b := r.2) hr
        obtain ⟨B', C, hB', hC, hCl, e2⟩ := rdOne_drop hb (s := s.1) (b := s.2) (at' := r.2) hs
        obtain rfl : B = B' := by omega
        exact ⟨C, hC, hCl, by rw [e1, e2, seensL_snoc, List.append_assoc]⟩
/-- Bytes that are read as a shot are what is written of it. -/
theorem rdShot_only {xs : List Int} (hb : Byt xs) {R : SaysT} (h : rdShot xs = some R) (ha : R.at' = xs.length) : shotL R.st R.p R.k R.l = xs := by
  unfold rdShot at h
  split at h
  · cases h
  · rename_i hd hh
    split at h
    · cases h
    · rename_i h64
      split at h
      · cases h
      · rename_i r hr
        cases h
        rcases rd_split 0 xs with h1 | ⟨st, a1, h1⟩
        · rw [rdHead_1 h1] at hh; cases hh
        rcases rt_split a1 xs with h2 | ⟨p, a2, h2⟩
        · rw [rdHead_2 h1 h2] at hh; cases hh
        rcases rd_split a2 xs with h3 | ⟨k, a3, h3⟩
        · rw [rdHead_3 h1 h2 h3] at hh; cases hh
        rcases rd_split a3 xs with h4 | ⟨n, a4, h4⟩
        · rw [rdHead_4 h1 h2 h3 h4] at hh; cases hh
        rw [rdHead_5 h1 h2 h3 h4] at hh
        cases hh
        obtain ⟨A0, A1, hA0, rfl, _, e1⟩ := rd_drop hb h1
        obtain ⟨A1', A2, hA1, rfl, _, e2⟩ := rt_drop hb h2
        obtain ⟨A2', A3, hA2, rfl, _, e3⟩ := rd_drop hb h3
        obtain ⟨A3', A4, hA3, rfl, hl4, e4⟩ := rd_drop hb h4
        obtain rfl : A0 = 0 := by omega
        obtain rfl : A1 = A1' := by omega
        obtain rfl : A2 = A2' := by omega
        obtain rfl : A3 = A3' := by omega
        simp only at hr ha
        obtain ⟨B, hB, hBl, e5⟩ := rdMany_drop hb A4 hl4 n.toNat (l := r.1) (b := r.2) hr
        have hlen := rdMany_len (l := r.1) (a1 := r.2) hr
        have hBx : B = xs.length := by omega
        rw [hBx, List.drop_length, List.append_nil] at e5
        show numL st.toNat ++ (textL p ++ (numL k.toNat ++ (numL r.1.length ++ seensL r.1))) = xs
        rw [hlen, ← e5, ← e4, ← e3, ← e2, ← e1]
        rfl
end Go.Proofs.YtponpkfdkdnaeaaGreatDoor.W
namespace Go.Proofs.YtponpkfdkdnaeaaGreatDoor.T
open Go.RowKit Go.Maps Go.Sort Go.Shelf
set_option linter.unusedVariables false

/-- No more of a text than a place may have. -/
def cl (l : List UInt8) : List UInt8 := l.take 1000
def encC (l : List UInt8) : Value := encStr (cl l)
def cfC (x y : List UInt8) : Int := ordL (cl x) (cl y)
theorem cl_id {l : List UInt8} (h : l.length ≤ 1000) : cl l = l := List.take_of_length_le h

theorem lt_iff (x y : List UInt8) : ltOf cfC x y = true ↔ ordL (cl x) (cl y) = -1 := by
  unfold ltOf cfC
  rcases ordL_range (cl x) (cl y) with h | h | h <;> simp [h]
theorem swoC : SWO (ltOf cfC) where
  irrefl x := by
    cases h : ltOf cfC x x with
    | false => rfl
    | true => rw [lt_iff, ordL_self] at h; cases h
  trans x y z h1 h2 := by
    rw [lt_iff] at *
    exact ordL_trans _ _ _ h1 h2
  ntrans x y z h1 h2 := by
    cases h : ltOf cfC x z with
    | false => rfl
    | true =>
      rw [lt_iff] at h
      have g1 : ¬ ordL (cl x) (cl y) = -1 := fun e => by rw [(lt_iff x y).2 e] at h1; cases h1
      have g2 : ¬ ordL (cl y) (cl z) = -1 := fun e => by rw [(lt_iff y z).2 e] at h2; cases h2
      exfalso
      rcases ordL_range (cl x) (cl y) with e | e | e
      · exact g1 e
      · have := ordL_zero _ _ e
        rw [this] at h
        exact g2 h
      · have e' : ordL (cl y) (cl x) = -1 := by rw [ordL_anti, e]
        exact g2 (ordL_trans _ _ _ e' h)

theorem cmpC (blk off size : Nat) (w : World) : CmpReads Tryz.prog 39 #[] encC cfC blk off size w := by
  intro m os dk _ x y
  have hs : ∀ l : List UInt8, (⟨(cl l).toArray⟩ : ByteArray).size ≤ maxLen := fun l => by
    have : (cl l).length ≤ 1000 := List.length_take_le _ _
    show (cl l).toArray.size ≤ maxLen
    unfold maxLen
    simp
    omega
  have h := order_O ⟨(cl x).toArray⟩ ⟨(cl y).toArray⟩ (hs x) (hs y) (sortWorld encC w blk off m dk os)
  rw [O_list] at h
  exact h

theorem putC {w : World} {g n : Nat} {os : Array Obj} {ts : List (List UInt8)} (h : ∀ l ∈ ts, l.length ≤ 1000) : sortWorld encC w g 0 n ts.toArray os = grow (putRow encStr (Sort.ahead w n) g 0 ts.toArray) os := by
  unfold sortWorld putRow
  congr 1
  congr 1
  funext c
  unfold putCells
  congr 1
  funext k x
  split
  · rename_i hk
    have hk' : k < ts.length := by simpa using hk.2
    have e : ts.toArray[k - 0]! = ts[k] := by simp [hk']
    rw [e]
    show encStr (cl ts[k]) = encStr ts[k]
    rw [cl_id (h _ (List.getElem_mem hk'))]
  · rfl

set_option maxHeartbeats 1000000 in
theorem sorts_to : SortsTo := by
  intro base g cap ss w hr hss hlen
  rcases hr.2 with ⟨hv, _⟩ | ⟨g', cap', cur, hv, hbase, hb', h1, h2, h3, h4⟩
  · cases hv
  obtain ⟨rfl, rfl⟩ : g = g' ∧ cap = cap' := by
    simp only [Value.slice.injEq, Option.some.injEq, Addr.mk.injEq] at hv
    exact ⟨hv.1.1, hv.2.2⟩
  have hH : Holds encC w g 0 ss.toArray := fun j hj => by
    have h := holds_of_block hb' (by simpa using h4) j hj
    have hj' : j < ss.length := by simpa using hj
    have e : ss.toArray[j]! = ss[j] := by simp [hj']
    refine ⟨?_, h.2⟩
    rw [h.1, e]
    show some (encStr ss[j]) = some (encStr (cl ss[j]))
    rw [cl_id (hss _ (List.getElem_mem hj'))]
  have hcon := Any.slices_SortFunc Tryz.sortF encC (fun _ => rfl) cfC swoC 39 #[] g 0 cap ss.toArray w (enters_of Tryz.func39 (by kernel_rfl) rfl) (cmpC g 0 ss.toArray.size w).lays hH (Array.getElem?_eq_some_iff.1 hb').1 (by simp; omega)
  have HCON : Calls Tryz.prog 89 #[.slice (some ⟨g, 0, none⟩) ss.length cap, ordV] w fun e w' => e = .returned (.tuple #[]) ∧ ∃ d' n os, PermIn 0 ss.toArray.size ss.toArray d' ∧ SortedIn (ltOf cfC) 0 ss.toArray.size d' ∧ w' = sortWorld encC w g 0 n d' os := hcon
  refine Calls.mono HCON ?_
  rintro e w2 ⟨rfl, d', nn, os, hpm, hso, rfl⟩
  obtain ⟨ts, rfl⟩ : ∃ ts : List (List UInt8), d' = ts.toArray := ⟨d'.toList, by simp⟩
  have hl : ts.length = ss.length := by simpa using hpm.1
  have hpp : ts.Perm ss := by
    have := hpm.2.2
    simpa [hl, List.take_of_length_le] using this
  have hts : ∀ l ∈ ts, l.length ≤ 1000 := fun l h => hss l (hpp.mem_iff.1 h)
  rw [putC hts]
  refine ⟨rfl, ts, hpp, ?_, ?_, grownBy_sorted _⟩
  · rw [List.pairwise_iff_getElem]
    intro i j hi hj hij e
    have hs := hso i j (Nat.zero_le _) hij (by simp; omega)
    have e1 : ts.toArray[j]! = ts[j] := by simp [hj]
    have e2 : ts.toArray[i]! = ts[i] := by simp [hi]
    rw [e1, e2] at hs
    have : ltOf cfC ts[j] ts[i] = true := by
      rw [lt_iff, cl_id (hts _ (List.getElem_mem hj)), cl_id (hts _ (List.getElem_mem hi)), ordL_anti, e]
    rw [this] at hs
    cases hs
  · have := ownsRow_sorted (n := nn) (os := os) hl hbase hb' h1 h2 h3
    rw [hl]
    exact this
end Go.Proofs.YtponpkfdkdnaeaaGreatDoor.T
namespace Go.Proofs.YtponpkfdkdnaeaaGreatDoor.T
open Go.RowKit Go.Maps
set_option linter.unusedVariables false
set_option linter.unusedSimpArgs false

set_option maxHeartbeats 4000000 in
set_option maxRecDepth 100000 in
theorem sorts_nil : SortsNil := by
  intro w
  go_enter Tryz.func89, Tryz.ntmps89
  go_wp2_with (first | go_in | fail)
  refine wp_loop_rounds 1 ?_
  rw [rounds_succ]
  go_wp2_with (first | go_in | fail)
  refine wp_loop_rounds 1 ?_
  rw [rounds_succ]
  go_wp2_with (first | go_in | fail)
  go_end0
  simp only []
  go_wp2_with (first | go_in | fail)
  refine bodyPost_ret (results_none rfl _ _ _) rfl ?_
  simp only []
  go_wp2_with (first | go_in | fail)
  go_end0
  exact ⟨rfl, Below.refl _ _⟩
end Go.Proofs.YtponpkfdkdnaeaaGreatDoor.T
namespace Go.Proofs.YtponpkfdkdnaeaaGreatDoor
open Go.RowKit Go.Maps
set_option linter.unusedVariables false
set_option linter.unusedSimpArgs false

/-- What a watch sees of the nodes at places. -/
def takeT (q : Int) (D : DataW Value) (l : List UInt8) : SeenT := match T.cellsOf (T.look D ⟨l.toArray⟩) with
  | .string p :: .string d :: .int .i64 v :: _ => ⟨p, T.sd q d, T.sv q v⟩
  | _ => ⟨⟨#[]⟩, ⟨#[]⟩, 0⟩
def takeL (q : Int) (D : DataW Value) (ts : List (List UInt8)) : List SeenT := ts.map (takeT q D)
theorem takeL_cells (q : Int) (D : DataW Value) (hwf : T.WF D) (ts : List (List UInt8)) (hts : ∀ l ∈ ts, l ∈ strKeys D) : T.seenCs q D ts = seCs (takeL q D ts) := by
  induction ts with
  | nil => rfl
  | cons l ts ih =>
    obtain ⟨_, p, d, v, m, c, o, k, hlk, _, _⟩ := hwf l (hts l (by simp))
    have h1 := ih (fun x hx => hts x (by simp [hx]))
    have h2 := T.seenCs_snoc q D [] l hlk
    have e1 : T.seenCs q D (l :: ts) = T.seenCs q D [l] ++ T.seenCs q D ts := by simp [T.seenCs]
    have e2 : takeT q D l = ⟨p, T.sd q d, T.sv q v⟩ := by simp [takeT, hlk, T.fuV, T.cellsOf]
    rw [e1, h1]
    simp only [takeL, List.map_cons, seCs, List.flatten_cons, e2]
    congr 1
theorem row_cap {w : World} {B e s n cap : Nat} {a : Option Addr} {xs : List Value} (h : w.ownsRow B e s (.slice a n cap) n xs) : n ≤ cap ∧ (a = none → cap = 0) := by
  rcases h.2 with ⟨h0, _⟩ | ⟨g', cap', cur, hv, _, _, hn, _⟩
  · simp only [Value.slice.injEq] at h0
    exact ⟨by omega, fun _ => h0.2.2⟩
  · simp only [Value.slice.injEq] at hv
    exact ⟨by omega, fun ha => by rw [hv.1] at ha; cases ha⟩

theorem row_lo {w : World} {B e s n cap : Nat} {a : Option Addr} {xs : List Value} (h : w.ownsRow B e s (.slice a n cap) n xs) : ∀ b o, a = some ⟨b, o, none⟩ → B ≤ b := by
  intro b o ha
  rcases h.2 with ⟨h0, _⟩ | ⟨g', cap', cur, hv, hB, _⟩
  · simp only [Value.slice.injEq] at h0
    rw [h0.1] at ha; cases ha
  · simp only [Value.slice.injEq] at hv
    rw [hv.1] at ha
    cases ha
    exact hB
theorem ss_put4 {w : World} {g : Nat} {x0 x1 x2 x3 : Value} {a : Option Addr} {l : List SeenT} (h : Ss w a l) (hne : ∀ b o, a = some ⟨b, o, none⟩ → b ≠ g) : Ss (T.put_4 w g x0 x1 x2 x3) a l := by
  rcases h with h | ⟨b, o, ha, hlt, hs⟩
  · exact .inl h
  · exact .inr ⟨b, o, ha, by simpa [T.put_4] using hlt, fun i s hi j x hx => T.cellO_4 (hs i s hi j x hx) (hne b o ha)⟩

set_option maxHeartbeats 6400000 in
set_option maxRecDepth 100000 in
theorem take_any (base tb mb n : Nat) (D : DataW Value) (kind stamp : Int) (at' : ByteArray) (w : World) (hg : Ground w) (hT : T.TreeAt w base tb mb n D) (hn : Maps.size D ≤ 1000) (hwf : T.WF D) (hp : isP at' = true) (hk : kind = 1 ∨ kind = 2 ∨ kind = 3) (hst : isNum stamp = true) (ha : at'.size ≤ 1000) :
    Calls Tryz.prog 13 #[.pointer (some ⟨tb, 0, none⟩), .int .i64 stamp, .string at', .int .i64 kind] w fun e w' => ∃ (a : Option Addr) (c : Nat) (ts : List (List UInt8)), e = .returned (.tuple #[.agg (shA stamp at' kind a ts.length c), .int .i64 0]) ∧ ts.Perm ((strKeys D).filter (T.wF kind at')) ∧ ts.Pairwise (fun x y => ordL x y ≠ 1) ∧ Ss w' a (takeL kind D ts) ∧ ts.length ≤ c ∧ (a = none → c = 0) ∧ Below w.heap.size w w' := by
  have HB0 : Hid (Below w.heap.size w (w.alloc (.cells (shA 0 ⟨#[]⟩ 0 none 0 0) 24))) := (Below.refl _ _).alloc (Nat.le_refl _) _
  have HN : Hid (∀ w, Calls Tryz.prog 18 #[.int .i64 stamp] w fun e w' => e = .returned (.bool true) ∧ w' = w) := fun w => by have := isNumber_any stamp w; rw [hst] at this; exact this
  have HP : Hid _ := T.part_any T.sorts_to T.sorts_nil base tb mb n D kind at' _ (hg.below HB0.out) (hT.below HB0.out) hn hwf hp hk
  have HCL : Hid _ := T.sclone_any at' (by omega)
  have HW : Hid _ := hwf
  clear hg hT hn hwf hp hk hst ha
  go_enter Tryz.func13, Tryz.ntmps13
  go_wp2_with (first
    | (go_at_call 18; refine (HN.out _).mono ?_; rintro e w0 ⟨rfl, rfl⟩)
    | fail)
  refine Calls.mono HP.out ?_
  rintro e w1 ⟨a, c, ts, rfl, hp1, hs1, hr1, hb1⟩
  have hts : ∀ l ∈ ts, l ∈ strKeys D := fun l hl => (List.mem_filter.1 (hp1.mem_iff.1 hl)).1
  rw [takeL_cells kind D HW.out ts hts] at hr1
  have HS1 : Hid (Ss w1 a (takeL kind D ts)) := ss_of_row hr1
  have HC1 : Hid (ts.length ≤ c ∧ (a = none → c = 0)) := row_cap hr1
  have HF1 : Hid (∀ b o, a = some ⟨b, o, none⟩ → b ≠ w.heap.size) := fun b o ha e => by have := row_lo hr1 b o ha; simp at this; omega
  have HX1 : Hid (ts.Perm ((strKeys D).filter (T.wF kind at')) ∧ ts.Pairwise (fun x y => ordL x y ≠ 1)) := ⟨hp1, hs1⟩
  have HB1 : Hid (Below w.heap.size w w1) := trans2 HB0.out hb1
  have HR1 : Hid (w1.heap[w.heap.size]? = some (.cells (shA 0 ⟨#[]⟩ 0 none 0 0) 24 (0, 0))) := T.kept_block hb1 (heap_alloc_new _ _)
  clear hp1 hs1 hr1 hb1 hts
  go_wp2_with fail
  refine (HCL.out _).mono ?_
  rintro e w2 ⟨rfl, hb2⟩
  have HS2 : Hid (Ss w2 a (takeL kind D ts)) := HS1.out.below hb2
  have HB2 : Hid (Below w.heap.size w w2) := trans2 HB1.out hb2
  have HR2 : Hid (w2.heap[w.heap.size]? = some (.cells #[.int .i64 0, .string ⟨#[]⟩, .int .i64 0, .slice none 0 0] 24 (0, 0))) := T.kept_block hb2 HR1.out
  clear hb2
  obtain ⟨b0, b1, b2, b3⟩ := T.cells_4 HR2.out
  have f4 := T.free_4 HR2.out
  go_wp2_with fail
  exact bodyPost_ret (T.results_cell_tmp rfl _ _ w.heap.size 24 _ (0, 0) _ _ rfl rfl (T.fill_4 HR2.out) Tryz.underlying24 rfl (by kernel_rfl)) rfl ⟨a, c, ts, rfl, HX1.out.1, HX1.out.2, ss_put4 HS2.out HF1.out, HC1.out.1, HC1.out.2, T.fillB_4 HB2.out (Nat.le_refl _)⟩
end Go.Proofs.YtponpkfdkdnaeaaGreatDoor
namespace Go.Proofs.YtponpkfdkdnaeaaGreatDoor.W
open Go.RowKit Classical
set_option linter.unusedVariables false
set_option linter.unusedSimpArgs false

theorem isP_size {x : ByteArray} (h : isP x = true) : x.size ≤ 102 := by
  obtain ⟨⟨c, xs⟩, hp⟩ : ∃ q, parse x = q := ⟨_, rfl⟩
  have hc : c = 0 := by have := isP_iff.1 h; rw [hp] at this; exact this
  subst hc
  have hl := parse_len hp
  rw [← parse_back hp]
  exact place_size hl.1 hl.2
structure Sized (st : Int) (p : ByteArray) (k : Int) (l : List SeenT) : Prop where
  st : 0 ≤ st ∧ st ≤ 2147483647
  p : p.size ≤ 102
  k : 1 ≤ k ∧ k ≤ 3
  len : l.length ≤ 64
  each : ∀ s ∈ l, s.p.size ≤ 102 ∧ s.d.size ≤ 64 ∧ 0 ≤ s.v ∧ s.v ≤ 2147483647
  asc : Asc l
theorem sized_of_good {st : Int} {p : ByteArray} {k : Int} {l : List SeenT} (h : Good st p k l) : Sized st p k l := by
  have h1 : 0 ≤ st ∧ st ≤ 2147483647 := by have := h.1; simpa [isNum] using this
  obtain ⟨h2, h3, h4⟩ := (cov_self k p).1 h.2.1
  refine ⟨h1, isP_size h2, ⟨h3, h4⟩, h.2.2.1, fun s hs => ?_, ?_⟩
  · obtain ⟨i, hi⟩ := List.getElem?_of_mem hs
    have hm := h.2.2.2.2 i s hi
    unfold mayB at hm
    simp only [Bool.and_eq_true] at hm
    have hc := (cov_in h2 ⟨h3, h4⟩).1 hm.1.1.1
    have hf := hm.1.1.2
    unfold fitB isNum at hf
    simp only [Bool.and_eq_true, decide_eq_true_eq] at hf
    exact ⟨isP_size hc.1, hf.1, hf.2.1, hf.2.2⟩
  · have := asc_of_may (k := k) (p := p) (l := l) l.length (Nat.le_refl _) (fun i n _ hn => h.2.2.2.2 i n hn)
    rw [List.take_length] at this
    exact this
theorem eok_of_good {st : Int} {p : ByteArray} {k : Int} {l : List SeenT} (h : Good st p k l) : EOk st p k l := by
  have s := sized_of_good h
  exact ⟨s.st, by have := s.p; omega, by have := s.k; omega, s.len, fun x hx => by have := s.each x hx; omega⟩
set_option maxHeartbeats 3200000 in
set_option maxRecDepth 100000 in
theorem encode_any (st : Int) (p : ByteArray) (k : Int) (a : Option Addr) (c n : Nat) (l : List SeenT) (w : World) (hn : l.length = n) (hg : Ground w) (hs : Ss w a l) (hok : ∀ s ∈ l, s.p.size ≤ maxLen) (hl : n ≤ maxLen) (hc : n ≤ c) :
    Calls Tryz.prog 6 #[.agg (shA st p k a n c)] w fun e w' => ∃ a' c' zs, e = .returned (.tuple #[.slice a' zs.length c', .int .i64 (chk st p k l)]) ∧ (Good st p k l → zs = shotL st p k l) ∧ (¬ Good st p k l → zs = []) ∧ Bys w' a' zs ∧ Below w.heap.size w w' ∧ zs.length ≤ c' ∧ c' ≤ maxLen := by
  subst hn
  have HB0 : Hid (Below w.heap.size w (w.alloc (.cells (shA st p k a l.length c) 24))) := (Below.refl _ _).alloc (Nat.le_refl _) _
  have HA0 : Hid ((w.alloc (.cells (shA st p k a l.length c) 24)).heap[w.heap.size]? = some (.cells (shA st p k a l.length c) 24 (0, 0))) := heap_alloc_new _ _
  have HCH : Hid _ := check_any st p k a c l (w.alloc (.cells (shA st p k a l.length c) 24)) (hg.below HB0.out) (hs.below HB0.out) hok hl hc
  have HS : Hid (Ss w a l) := hs
  clear hok hl hc hg hs
  by_cases hgd : Good st p k l
  · rw [chk_good hgd] at HCH ⊢
    have HGD : Hid (Good st p k l) := hgd
    have HOK : Hid (EOk st p k l) := eok_of_good hgd
    obtain ⟨sn, rfl⟩ : ∃ sn : Nat, st = sn := ⟨st.toNat, by have := (eok_of_good hgd).st; omega⟩
    obtain ⟨kn, rfl⟩ : ∃ kn : Nat, k = kn := ⟨k.toNat, by have := (eok_of_good hgd).k; omega⟩
    clear hgd
    go_enter Tryz.func6, Tryz.ntmps6
    go_wp2_with fail
    refine Calls.mono HCH.out ?_
    rintro e w1 ⟨rfl, hb1⟩
    have HB1 : Hid (Below w.heap.size w w1) := trans2 HB0.out hb1
    have HA1 : Hid (w1.heap[w.heap.size]? = some (.cells (shA sn p kn a l.length c) 24 (0, 0))) := kept_block hb1 HA0.out
    have HB2 : Hid (Below w.heap.size w (w1.alloc (.cells #[.slice none 0 0] 57))) := HB1.out.alloc HB1.out.size _
    have HW2 : Hid (WrAt (w1.alloc (.cells #[.slice none 0 0] 57)) w.heap.size w1.heap.size (.slice none 0 0) []) := ⟨heap_alloc_new _ _, World.ownsRow_nil _ _ _ _, HB1.out.size⟩
    have HA2 : Hid ((w1.alloc (.cells #[.slice none 0 0] 57)).heap[w.heap.size]? = some (.cells (shA sn p kn a l.length c) 24 (0, 0))) := new_old HA1.out _
    obtain ⟨a0, a1, a2, a3⟩ := cells_4 HA2.out
    clear hb1
    go_wp2_with fail
    refine (wShot_any w.heap.size w1.heap.size (.slice none 0 0) sn p kn a c l.length l _ HW2.out HB2.out.size (HS.out.below HB2.out) (fun hl b o ha => ?_) HOK.out rfl).mono ?_
    · rcases HS.out with h | ⟨b', o', ha', hlt, _⟩
      · exact absurd h hl
      · rw [ha'] at ha
        cases ha
        exact hlt
    rintro e w3 ⟨v3, rfl, hw3, hb3⟩
    have HB3 : Hid (Below w.heap.size w w3) := HB2.out.trans hb3
    obtain ⟨ra, rc, rfl, hby, _, _, hrc1, hrc2⟩ := bys_of_owns hw3.row
    have HRC : Hid ((shotL sn p kn l).length ≤ rc ∧ rc ≤ maxLen) := ⟨hrc1, hrc2⟩
    clear hrc1 hrc2
    have HBY : Hid (Bys w3 ra (shotL sn p kn l)) := hby
    have b0 := cells_1 hw3.box
    clear hw3 hb3 hby a0 a1 a2 a3
    go_wp2_with fail
    go_ret2
    exact ⟨ra, rc, shotL sn p kn l, rfl, fun _ => rfl, fun h => absurd HGD.out h, HBY.out, HB3.out, HRC.out.1, HRC.out.2⟩
  · rw [chk_bad hgd] at HCH ⊢
    have HGD : Hid (¬ Good st p k l) := hgd
    clear hgd
    go_enter Tryz.func6, Tryz.ntmps6
    go_wp2_with fail
    refine Calls.mono HCH.out ?_
    rintro e w1 ⟨rfl, hb1⟩
    have HB1 : Hid (Below w.heap.size w w1) := trans2 HB0.out hb1
    clear hb1
    go_wp2_with fail
    go_ret2
    exact ⟨none, 0, [], rfl, fun h => absurd h HGD.out, fun _ => rfl, .inl rfl, HB1.out, Nat.le_refl _, Nat.zero_le _⟩
end Go.Proofs.YtponpkfdkdnaeaaGreatDoor.W
namespace Go.Proofs.YtponpkfdkdnaeaaGreatDoor
open Go.RowKit Classical
set_option linter.unusedVariables false
set_option linter.unusedSimpArgs false

set_option maxHeartbeats 6400000 in
set_option maxRecDepth 100000 in
theorem fold_arg (st : Int) (p : ByteArray) (k : Int) (a : Option Addr) (n c : Nat) (l : List SeenT) (stamp : Int) (ha : Option Addr) (hm hc : Nat) (cs : List ChT) (w : World) (hg : Ground w) (hs : Ss w a l) (hn : l.length = n) (hok : ∀ s ∈ l, s.p.size ≤ maxLen) (hl : n ≤ maxLen) (hcn : n ≤ c) (hG : Good st p k l) (hA : stamp ≤ st ∨ 2147483647 < stamp) :
    Calls Tryz.prog 14 #[.agg (shA st p k a n c), .int .i64 stamp, .slice ha hm hc] w fun e w' => FoldEnd st p k l stamp cs w w' e := by
  have H0 : Hid (FB w _ (shA st p k a n c) shZ) := FB.start w _ _
  have HC : Hid (∀ w', Below w.heap.size w w' → Calls Tryz.prog 7 #[.agg (shA st p k a n c)] w' fun e w'' => e = .returned (.int .i64 0) ∧ Below w'.heap.size w' w'') := fun w' hb => by
    have := check_any st p k a c l w' (hg.below hb) (hs.below hb) hok (by rw [hn]; exact hl) (by rw [hn]; exact hcn)
    rw [hn, chk_good hG] at this
    exact this
  have HR : Hid (FoldRes st p k l stamp cs 1 0 ⟨#[]⟩ 0 []) := foldRes_arg hG hA
  clear hg hs hok hl hcn hG
  obtain ⟨a0, a1, a2, a3⟩ := cells_4 H0.out.pa
  by_cases h1 : stamp ≤ st
  · go_enter Tryz.func14, Tryz.ntmps14
    go_wp2_with fail
    refine (HC.out _ H0.out.low).mono ?_
    rintro e w1 ⟨rfl, hb1⟩
    have H1 : Hid (FB w w1 (shA st p k a n c) shZ) := H0.out.below hb1
    clear hb1 a0 a1 a2 a3
    obtain ⟨a0, a1, a2, a3⟩ := cells_4 H1.out.pa
    obtain ⟨r0, r1, r2, r3⟩ := cells_4 H1.out.pr
    have f4 := free_4 H1.out.pr
    go_wp2_with fail
    exact bodyPost_ret (results_cell_tmp rfl _ _ (w.heap.size + 1) 24 _ (0, 0) _ _ rfl rfl (fill_4 H1.out.pr) Tryz.underlying24 rfl (by kernel_rfl)) rfl ⟨0, ⟨#[]⟩, 0, none, 0, [], 1, rfl, .inl rfl, HR.out, by simp, fillB_4 H1.out.low (by omega), Nat.le_refl _⟩
  · have h2 : 2147483647 < stamp := by rcases hA with h | h; exact absurd h h1; exact h
    go_enter Tryz.func14, Tryz.ntmps14
    go_wp2_with fail
    refine (HC.out _ H0.out.low).mono ?_
    rintro e w1 ⟨rfl, hb1⟩
    have H1 : Hid (FB w w1 (shA st p k a n c) shZ) := H0.out.below hb1
    clear hb1 a0 a1 a2 a3
    obtain ⟨a0, a1, a2, a3⟩ := cells_4 H1.out.pa
    obtain ⟨r0, r1, r2, r3⟩ := cells_4 H1.out.pr
    have f4 := free_4 H1.out.pr
    go_wp2_with fail
    exact bodyPost_ret (results_cell_tmp rfl _ _ (w.heap.size + 1) 24 _ (0, 0) _ _ rfl rfl (fill_4 H1.out.pr) Tryz.underlying24 rfl (by kernel_rfl)) rfl ⟨0, ⟨#[]⟩, 0, none, 0, [], 1, rfl, .inl rfl, HR.out, by simp, fillB_4 H1.out.low (by omega), Nat.le_refl _⟩
end Go.Proofs.YtponpkfdkdnaeaaGreatDoor
namespace Go.Proofs.YtponpkfdkdnaeaaGreatDoor
open Go.RowKit Classical

theorem fold_any (st : Int) (p : ByteArray) (k : Int) (a : Option Addr) (n c : Nat) (l : List SeenT) (stamp : Int) (ha : Option Addr) (hm hc : Nat) (cs : List ChT) (w : World) (hg : Ground w) (hs : Ss w a l) (hn : l.length = n) (hok : ∀ s ∈ l, s.p.size ≤ maxLen) (hl : n ≤ maxLen) (hcn : n ≤ c) (hh : Hs w ha cs) (hhm : cs.length = hm) (hm9 : hm ≤ 1000) :
    Calls Tryz.prog 14 #[.agg (shA st p k a n c), .int .i64 stamp, .slice ha hm hc] w fun e w' => FoldEnd st p k l stamp cs w w' e := by
  by_cases hG : Good st p k l
  · by_cases hA : stamp ≤ st ∨ 2147483647 < stamp
    · exact fold_arg st p k a n c l stamp ha hm hc cs w hg hs hn hok hl hcn hG hA
    · exact fold_good st p k a n c l stamp ha hm hc cs w hg hs hn hok hl hcn hh hhm hm9 hG hA
  · exact fold_bad st p k a n c l stamp ha hm hc cs w hg hs hn hok hl hcn hG
end Go.Proofs.YtponpkfdkdnaeaaGreatDoor
namespace Go.Proofs.YtponpkfdkdnaeaaGreatDoor
open Go.RowKit Go.Maps
set_option linter.unusedVariables false
set_option linter.unusedSimpArgs false

abbrev pA : ByteArray := ⟨#[47, 97]⟩
abbrev pR : ByteArray := ⟨#[47]⟩
abbrev dX : ByteArray := ⟨#[120]⟩
abbrev dY : ByteArray := ⟨#[121]⟩
abbrev knownD : DataW Value := .map [(T.ky pR, .held (T.fuV pR ⟨#[]⟩ 0 0 0 0 0)), (T.ky pA, .held (T.fuV pA dX 0 1 1 0 0))]
theorem par_a : T.parB pA = pR := by kernel_rfl
theorem look_r : T.look T.rootD pR = T.fuV pR ⟨#[]⟩ 0 0 0 0 0 := by kernel_rfl
theorem look_a : T.look T.rootD pA = T.zf := by kernel_rfl
theorem has_r : Maps.has T.rootD (T.ky pR) = true := by kernel_rfl
theorem has_a : Maps.has T.rootD (T.ky pA) = false := by kernel_rfl
theorem mal_a : T.malC 0 1 pA dX 0 = 0 := by kernel_rfl
theorem put_d : (T.rootD.put (T.ky pR) (.held (T.fuV pR ⟨#[]⟩ 0 0 0 0 0))).put (T.ky pA) (.held (T.fuV pA dX 0 1 1 0 0)) = knownD := by kernel_rfl
theorem keys_d : strKeys knownD = [[47], [47, 97]] := by kernel_rfl
theorem wf_d : T.WF knownD := by
  intro l hl
  rw [keys_d] at hl
  simp at hl
  rcases hl with rfl | rfl
  · exact ⟨by decide, pR, ⟨#[]⟩, 0, 0, 0, 0, 0, by kernel_rfl, by decide, by decide⟩
  · exact ⟨by decide, pA, dX, 0, 1, 1, 0, 0, by kernel_rfl, by decide, by decide⟩
theorem isP_a : isP pA = true := by kernel_rfl
theorem filt_d : (strKeys knownD).filter (T.wF 1 pA) = [[47, 97]] := by kernel_rfl
abbrev sX : SeenT := ⟨pA, dX, 0⟩
abbrev sY : SeenT := ⟨pA, dY, 1⟩
abbrev cY : ChT := ⟨2, pA, dY, 1⟩
theorem take_d : takeL 1 knownD [[47, 97]] = [sX] := by kernel_rfl
theorem good_x : Good 5 pA 1 [sX] := by
  refine ⟨by decide, by kernel_rfl, by decide, fun h => absurd h.2 (by simp), ?_⟩
  intro i n h
  match i with
  | 0 => simp at h; subst h; show mayB 1 pA [] sX = true; kernel_rfl
  | i + 1 => simp at h
theorem good_y : Good 6 pA 1 [sY] := by
  refine ⟨by decide, by kernel_rfl, by decide, fun h => absurd h.2 (by simp), ?_⟩
  intro i n h
  match i with
  | 0 => simp at h; subst h; show mayB 1 pA [] sY = true; kernel_rfl
  | i + 1 => simp at h
theorem fold_d : foldF 1 pA [sX] [cY] = some [sY] := by kernel_rfl
theorem diff_d : (goneL [sX] [sY]).reverse ++ turnL [sX] [sY] = [cY] := by kernel_rfl
theorem len_d : (W.shotL 5 pA 1 [sX]).length = 12 := by kernel_rfl
theorem byt_d : W.Byt (W.shotL 5 pA 1 [sX]) := by
  have h : (W.shotL 5 pA 1 [sX]).all (fun z => decide (0 ≤ z) && decide (z < 256)) = true := by kernel_rfl
  intro z hz
  have := List.all_eq_true.1 h z hz
  simpa using this
theorem back_d : W.rdShot (W.shotL 5 pA 1 [sX]) = some ⟨5, pA, 1, [sX], ((W.shotL 5 pA 1 [sX]).length : Int)⟩ := W.rdShot_back 5 pA 1 [sX] (by decide) (by decide) (by decide) (by decide) (fun s hs => by
  simp at hs
  subst hs
  exact ⟨by decide, by decide, by decide⟩)
end Go.Proofs.YtponpkfdkdnaeaaGreatDoor
