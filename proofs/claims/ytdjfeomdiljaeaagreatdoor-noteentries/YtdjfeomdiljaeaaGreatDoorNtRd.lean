/-
  note: what bytes say of numbers, texts, ops, entries.
-/
import Derived.Test.YtdjfeomdiljaeaaGreatDoorNtEn
namespace Go.Proofs.YtdjfeomdiljaeaaGreatDoor
open Go.RowKit
set_option linter.unusedVariables false
set_option linter.unusedSimpArgs false

theorem str_of (s : ByteArray) : strOfNums (strL s) = s := by
  unfold strOfNums strL
  cases s with
  | mk d =>
    congr 1
    rw [List.map_map]
    have : ((fun n : Int => UInt8.ofNat n.toNat) ∘ fun b : UInt8 => (b.toNat : Int)) = id := by
      funext b
      simp
    rw [this, List.map_id]

/-- What was written is read again: the number. -/
theorem rd_back (p : List Int) (v : Nat) (r : List Int) (hv : v ≤ 2147483647) : rdAny (p.length : Int) (p ++ (numL v ++ r)) = ((v : Int), ((p.length + (numL v).length : Nat) : Int), 0) := by
  unfold rdAny
  rw [if_pos (by rw [List.length_append]; omega), Int.toNat_natCast, List.drop_left]
  have := rd_num (p.length : Int) r 5 0 0 v (by omega) (by omega) (.inl rfl) (by omega)
  rw [this]
  simp
/-- What was written is read again: the text. -/
theorem rt_back (p : List Int) (s : ByteArray) (r : List Int) (hs : s.size ≤ 262144) : rtAny (p.length : Int) (p ++ (textL s ++ r)) = (s, ((p.length + (textL s).length : Nat) : Int), 0) := by
  have e1 : textL s = numL s.size ++ strL s := by unfold textL; rw [if_pos hs]
  have e2 : p ++ (textL s ++ r) = p ++ (numL s.size ++ (strL s ++ r)) := by rw [e1, List.append_assoc]
  have h := rd_back p s.size (strL s ++ r) (by omega)
  rw [← e2] at h
  unfold rtAny
  rw [h]
  simp only [ne_eq, not_true_eq_false, if_false, Int.toNat_natCast]
  have hlen : (p ++ (textL s ++ r)).length = p.length + (numL s.size).length + s.size + r.length := by
    rw [e2, List.length_append, List.length_append, List.length_append, strL_len]
    omega
  rw [if_neg (by omega), if_neg (by rw [hlen]; omega)]
  have hd : (p ++ (textL s ++ r)).drop (p.length + (numL s.size).length) = strL s ++ r := by
    rw [e2, ← List.drop_drop, List.drop_left, List.drop_left]
  rw [hd, ← strL_len s, List.take_left, str_of, e1, List.length_append, strL_len]
  congr 2
  omega

theorem strL_of {ys : List Int} (h : Byt ys) : strL (strOfNums ys) = ys := by
  unfold strL
  rw [strOfNums_data, List.map_map]
  apply List.ext_getElem?
  intro j
  rw [List.getElem?_map]
  cases hj : ys[j]? with
  | none => rfl
  | some z =>
    have hz := h.at hj
    simp only [Option.map_some, Function.comp]
    rw [UInt8.toNat_ofNat']
    congr 1
    omega

/-- What is read as a number is what is written of it. -/
theorem rd_piece {at' : Int} {xs : List Int} {n b : Int} (hb : Byt xs) (h : rdAny at' xs = (n, b, 0)) :
    ∃ A B N : Nat, at' = A ∧ b = B ∧ n = N ∧ A < B ∧ B ≤ xs.length ∧ N ≤ 2147483647 ∧ (xs.drop A).take (B - A) = numL N := by
  have hk := rdAny_ok hb h
  obtain ⟨A, rfl⟩ := Int.eq_ofNat_of_zero_le hk.1
  obtain ⟨N, rfl⟩ := Int.eq_ofNat_of_zero_le hk.2.1
  obtain ⟨B, rfl⟩ := Int.eq_ofNat_of_zero_le (show 0 ≤ b by omega)
  refine ⟨A, B, N, rfl, rfl, rfl, by omega, by omega, by omega, ?_⟩
  have h1 := hk.2.2.2.2.2.1
  have h2 := hk.2.2.2.2.2.2
  simp only [Int.toNat_natCast] at h1 h2
  rw [h1, show B - A = (numL N).length by omega, List.take_left]

/-- What is read as a text is what is written of it. -/
theorem rt_piece {at' : Int} {xs : List Int} {s : ByteArray} {q : Int} (hb : Byt xs) (h : rtAny at' xs = (s, q, 0)) :
    (rdAny at' xs).2.2 = 0 ∧ ∃ A Q : Nat, at' = A ∧ q = Q ∧ A < Q ∧ Q ≤ xs.length ∧ s.size ≤ 262144 ∧ (xs.drop A).take (Q - A) = textL s := by
  obtain ⟨n, b, e, he⟩ : ∃ n b e, rdAny at' xs = (n, b, e) := ⟨_, _, _, rfl⟩
  unfold rtAny at h
  rw [he] at h
  simp only at h
  by_cases h0 : e = 0
  · subst h0
    refine ⟨by rw [he], ?_⟩
    rw [if_neg (by simp)] at h
    split at h
    · simp at h
    · rename_i h1
      split at h
      · simp at h
      · rename_i h2
        simp only [Prod.mk.injEq, and_true] at h
        have hk := rdAny_ok hb he
        obtain ⟨A, B, N, rfl, rfl, rfl, hAB, hBx, hN, hp⟩ := rd_piece hb he
        simp only [Int.toNat_natCast] at h
        have hlen : ((xs.drop B).take N).length = N := by rw [List.length_take, List.length_drop]; omega
        have hs : s.size = N := by rw [← h.1, strOfNums_size, hlen]
        refine ⟨A, B + N, rfl, by rw [← h.2]; simp, by omega, by omega, by omega, ?_⟩
        have e1 : textL s = numL N ++ (xs.drop B).take N := by
          unfold textL
          rw [if_pos (by omega), hs, ← h.1, strL_of ((hb.drop B).take N)]
        have hd := hk.2.2.2.2.2.1
        simp only [Int.toNat_natCast] at hd
        have h2' := hk.2.2.2.2.2.2
        simp only [Int.toNat_natCast] at h2'
        rw [e1, hd, show B + N - A = (numL N).length + N by omega, List.take_length_add_append]
  · rw [if_pos h0] at h
    simp only [Prod.mk.injEq] at h
    exact absurd h.2.2 h0


/-- Numbers and texts that are read again. -/
theorem rd_drop {at' : Int} {xs : List Int} {n b : Int} (hb : Byt xs) (h : rdAny at' xs = (n, b, 0)) : ∃ A B : Nat, at' = A ∧ b = B ∧ B ≤ xs.length ∧ xs.drop A = numL n.toNat ++ xs.drop B := by
  obtain ⟨A, B, N, rfl, rfl, rfl, hAB, hB, _, hp⟩ := rd_piece hb h
  refine ⟨A, B, rfl, rfl, hB, ?_⟩
  rw [Int.toNat_natCast, ← hp]
  have e : xs.drop B = (xs.drop A).drop (B - A) := by rw [List.drop_drop]; congr 1; omega
  rw [e, List.take_append_drop]
theorem rt_drop {at' : Int} {xs : List Int} {s : ByteArray} {q : Int} (hb : Byt xs) (h : rtAny at' xs = (s, q, 0)) : ∃ A Q : Nat, at' = A ∧ q = Q ∧ Q ≤ xs.length ∧ xs.drop A = textL s ++ xs.drop Q := by
  obtain ⟨_, A, Q, rfl, rfl, hAQ, hQ, _, hp⟩ := rt_piece hb h
  refine ⟨A, Q, rfl, rfl, hQ, ?_⟩
  rw [← hp]
  have e : xs.drop Q = (xs.drop A).drop (Q - A) := by rw [List.drop_drop]; congr 1; omega
  rw [e, List.take_append_drop]
/-- At p stand these bytes; behind them q. -/
def Sd (xs : List Int) (p : Nat) (bs : List Int) (q : Nat) : Prop := xs.drop p = bs ++ xs.drop q ∧ p ≤ q ∧ q ≤ xs.length
theorem Sd.refl {xs : List Int} {p : Nat} (h : p ≤ xs.length) : Sd xs p [] p := ⟨rfl, Nat.le_refl _, h⟩
theorem Sd.trans {xs b1 b2 : List Int} {p q r : Nat} (h : Sd xs p b1 q) (k : Sd xs q b2 r) : Sd xs p (b1 ++ b2) r := ⟨by rw [h.1, k.1, List.append_assoc], Nat.le_trans h.2.1 k.2.1, k.2.2⟩
theorem nm_pre {a b : Int} {r s : List Int} (ha : inN a) (hb : inN b) (h : nmL a ++ r = nmL b ++ s) : a = b ∧ r = s := by
  have e1 := rd_back [] a.toNat r (by have := ha.2; omega)
  have e2 := rd_back [] b.toNat s (by have := hb.2; omega)
  simp only [List.nil_append] at e1 e2
  have h' : numL a.toNat ++ r = numL b.toNat ++ s := h
  rw [h', e2] at e1
  have e3 := congrArg Prod.fst e1
  simp only at e3
  have hab : a = b := by have := ha.1; have := hb.1; omega
  subst hab
  exact ⟨rfl, List.append_cancel_left h⟩
theorem tx_pre {a b : ByteArray} {r s : List Int} (ha : a.size ≤ 262144) (hb : b.size ≤ 262144) (h : textL a ++ r = textL b ++ s) : a = b ∧ r = s := by
  have e1 := rt_back [] a r ha
  have e2 := rt_back [] b s hb
  simp only [List.nil_append] at e1 e2
  rw [h, e2] at e1
  have e3 := congrArg Prod.fst e1
  simp only at e3
  subst e3
  exact ⟨rfl, List.append_cancel_left h⟩
abbrev inV (v : Int) : Prop := v = -1 ∨ inN v
theorem vr_pre {a b : Int} {r s : List Int} (ha : inV a) (hb : inV b) (h : vrL a ++ r = vrL b ++ s) : a = b ∧ r = s := by
  unfold vrL at h
  by_cases h1 : a = -1
  · by_cases h2 : b = -1
    · rw [if_pos h1, if_pos h2] at h
      exact ⟨by omega, List.append_cancel_left h⟩
    · rw [if_pos h1, if_neg h2, List.append_assoc] at h
      have := (nm_pre (by decide) (by decide) h).1
      omega
  · by_cases h2 : b = -1
    · rw [if_neg h1, if_pos h2, List.append_assoc] at h
      have := (nm_pre (by decide) (by decide) h).1
      omega
    · rw [if_neg h1, if_neg h2, List.append_assoc, List.append_assoc] at h
      exact nm_pre (ha.resolve_left h1) (hb.resolve_left h2) (nm_pre (by decide) (by decide) h).2
/-- An op that bytes can say. -/
abbrev OpG (e : OpN) : Prop := inN e.K ∧ e.p.size ≤ 262144 ∧ e.d.size ≤ 262144 ∧ inV e.v ∧ inN e.fl
theorem OpG.of {e : OpN} (h : OpN.Ok e) : OpG e := by
  obtain ⟨h1, h2, h3, h4, h5⟩ := OpN.lens h
  exact ⟨h1, by omega, by omega, h3, h2⟩
theorem op_pre {a b : OpN} {r s : List Int} (ha : OpG a) (hb : OpG b) (h : opL a ++ r = opL b ++ s) : a = b ∧ r = s := by
  obtain ⟨a1, a2, a3, a4, a5⟩ := ha
  obtain ⟨b1, b2, b3, b4, b5⟩ := hb
  unfold opL at h
  simp only [List.append_assoc] at h
  obtain ⟨e1, h⟩ := nm_pre a1 b1 h
  obtain ⟨e2, h⟩ := tx_pre a2 b2 h
  obtain ⟨e3, h⟩ := tx_pre a3 b3 h
  obtain ⟨e4, h⟩ := vr_pre a4 b4 h
  obtain ⟨e5, hrs⟩ := nm_pre a5 b5 h
  clear h
  cases a
  cases b
  simp only at e1 e2 e3 e4 e5
  subst e1; subst e2; subst e3; subst e4; subst e5
  exact ⟨rfl, hrs⟩
theorem fl_pre {E : Type} {f : E → List Int} {G : E → Prop} (hf : ∀ a b r s, G a → G b → f a ++ r = f b ++ s → a = b ∧ r = s) : ∀ {L M : List E} {r s : List Int}, L.length = M.length → (∀ x ∈ L, G x) → (∀ x ∈ M, G x) → L.flatMap f ++ r = M.flatMap f ++ s → L = M ∧ r = s
  | [], [], r, s, _, _, _, h => ⟨rfl, by simpa using h⟩
  | [], y :: M, _, _, hl, _, _, _ => by simp at hl
  | x :: L, [], _, _, hl, _, _, _ => by simp at hl
  | x :: L, y :: M, r, s, hl, hx, hy, h => by
    simp only [List.flatMap_cons, List.append_assoc] at h
    obtain ⟨e1, h⟩ := hf x y _ _ (hx x (by simp)) (hy y (by simp)) h
    obtain ⟨e2, h⟩ := fl_pre hf (by simpa using hl) (fun z hz => hx z (by simp [hz])) (fun z hz => hy z (by simp [hz])) h
    exact ⟨by rw [e1, e2], h⟩
theorem ls_pre {E : Type} {f : E → List Int} {G : E → Prop} (hf : ∀ a b r s, G a → G b → f a ++ r = f b ++ s → a = b ∧ r = s) {L M : List E} {r s : List Int} (hL : inN L.length) (hM : inN M.length) (h1 : ∀ x ∈ L, G x) (h2 : ∀ x ∈ M, G x) (h : lsL f L ++ r = lsL f M ++ s) : L = M ∧ r = s := by
  unfold lsL at h
  simp only [List.append_assoc] at h
  obtain ⟨e1, h⟩ := nm_pre hL hM h
  exact fl_pre hf (by omega) h1 h2 h
abbrev EnG (e : EnN) : Prop := (inN e.st ∧ inN e.vw ∧ inN e.K ∧ inN e.se ∧ inN e.rq) ∧ inN (e.ops.length : Int) ∧ ∀ x ∈ e.ops, OpG x
theorem EnG.of {e : EnN} (h : EnN.Ok e) : EnG e := by
  obtain ⟨h1, h2, h3⟩ := EnN.facts h
  exact ⟨⟨h1 _ (by simp), h1 _ (by simp), h1 _ (by simp), h1 _ (by simp), h1 _ (by simp)⟩, ⟨by omega, by omega⟩, fun x hx => OpG.of (h3 x hx)⟩
theorem enL_is (e : EnN) : enL e = nmL e.st ++ (nmL e.vw ++ (nmL e.K ++ (nmL e.se ++ (nmL e.rq ++ lsL opL e.ops)))) := by unfold enL nmsL; simp
/-- Two entries of the same content. -/
def EnN.Eq (a b : EnN) : Prop := a.st = b.st ∧ a.vw = b.vw ∧ a.K = b.K ∧ a.se = b.se ∧ a.rq = b.rq ∧ a.ops = b.ops
theorem en_pre {a b : EnN} {r s : List Int} (ha : EnG a) (hb : EnG b) (h : enL a ++ r = enL b ++ s) : EnN.Eq a b ∧ r = s := by
  obtain ⟨⟨a1, a2, a3, a4, a5⟩, a6, a7⟩ := ha
  obtain ⟨⟨b1, b2, b3, b4, b5⟩, b6, b7⟩ := hb
  rw [enL_is, enL_is] at h
  simp only [List.append_assoc] at h
  obtain ⟨e1, h⟩ := nm_pre a1 b1 h
  obtain ⟨e2, h⟩ := nm_pre a2 b2 h
  obtain ⟨e3, h⟩ := nm_pre a3 b3 h
  obtain ⟨e4, h⟩ := nm_pre a4 b4 h
  obtain ⟨e5, h⟩ := nm_pre a5 b5 h
  obtain ⟨e6, h⟩ := ls_pre (G := OpG) (fun a b r s => op_pre) a6 b6 a7 b7 h
  exact ⟨⟨e1, e2, e3, e4, e5, e6⟩, h⟩
/-- What a number at p is, as the library of bytes reads it. -/
theorem rd_say {xs : List Int} (hb : Byt xs) (p : Nat) (hp : p ≤ xs.length) : (∃ n : Int, ∃ q : Nat, rdAny p xs = (n, (q : Int), 0) ∧ inN n ∧ Sd xs p (nmL n) q) ∨ (rdAny p xs).2.2 ≠ 0 ∧ ∀ n r, inN n → xs.drop p ≠ nmL n ++ r := by
  obtain ⟨n, b, e, he⟩ : ∃ n b e, rdAny p xs = (n, b, e) := ⟨_, _, _, rfl⟩
  by_cases h0 : e = 0
  · subst h0
    have hk := rdAny_ok hb he
    obtain ⟨A, B, hA, hB, hl, hd⟩ := rd_drop hb he
    obtain rfl : p = A := by omega
    subst hB
    exact .inl ⟨n, B, he, ⟨hk.2.1, hk.2.2.1⟩, hd, by omega, hl⟩
  · refine .inr ⟨by rw [he]; exact h0, fun x r hx hd => h0 ?_⟩
    have e1 := rd_back (xs.take p) x.toNat r (by have := hx.2; omega)
    have e2 : xs.take p ++ (numL x.toNat ++ r) = xs := by
      have : numL x.toNat ++ r = xs.drop p := hd.symm
      rw [this, List.take_append_drop]
    rw [e2, List.length_take, Nat.min_eq_left hp, he] at e1
    exact congrArg (fun t => t.2.2) e1
theorem rt_say {xs : List Int} (hb : Byt xs) (p : Nat) (hp : p ≤ xs.length) : (∃ s : ByteArray, ∃ q : Nat, rtAny p xs = (s, (q : Int), 0) ∧ s.size ≤ 262144 ∧ Sd xs p (textL s) q) ∨ (rtAny p xs).2.2 ≠ 0 ∧ ∀ s r, s.size ≤ 262144 → xs.drop p ≠ textL s ++ r := by
  obtain ⟨n, b, e, he⟩ : ∃ n b e, rtAny p xs = (n, b, e) := ⟨_, _, _, rfl⟩
  by_cases h0 : e = 0
  · subst h0
    obtain ⟨_, A, Q, hA, hQ, hlt, hl, hs, _⟩ := rt_piece hb he
    obtain ⟨A', Q', hA', hQ', hl', hd⟩ := rt_drop hb he
    obtain rfl : p = A := by omega
    obtain rfl : p = A' := by omega
    subst hQ
    obtain rfl : Q = Q' := by omega
    exact .inl ⟨n, Q, he, hs, hd, by omega, hl⟩
  · refine .inr ⟨by rw [he]; exact h0, fun x r hx hd => h0 ?_⟩
    have e1 := rt_back (xs.take p) x r hx
    have e2 : xs.take p ++ (textL x ++ r) = xs := by rw [← hd, List.take_append_drop]
    rw [e2, List.length_take, Nat.min_eq_left hp, he] at e1
    exact congrArg (fun t => t.2.2) e1
end Go.Proofs.YtdjfeomdiljaeaaGreatDoor
