/-
  shot: what bytes say of a shot.
-/
import Derived.Test.YtponpkfdkdnaeaaDoorFRead
namespace Go.Proofs.YtponpkfdkdnaeaaDoor
open Go.RowKit
set_option linter.unusedVariables false
set_option linter.unusedSimpArgs false

/-- One node at a place of the bytes. -/
def rdOne (xs : List Int) (at' : Int) : Option (SeenT × Int) :=
  if (rtAny at' xs).2.2 = 0 then
    if (rtAny (rtAny at' xs).2.1 xs).2.2 = 0 then
      if (rdAny (rtAny (rtAny at' xs).2.1 xs).2.1 xs).2.2 = 0 then
        some (⟨(rtAny at' xs).1, (rtAny (rtAny at' xs).2.1 xs).1, (rdAny (rtAny (rtAny at' xs).2.1 xs).2.1 xs).1⟩, (rdAny (rtAny (rtAny at' xs).2.1 xs).2.1 xs).2.1)
      else none
    else none
  else none
theorem rdOne_1 {xs : List Int} {at' : Int} (h : (rtAny at' xs).2.2 ≠ 0) : rdOne xs at' = none := by unfold rdOne; rw [if_neg h]
theorem rdOne_2 {xs : List Int} {at' a1 : Int} {p : ByteArray} (h : rtAny at' xs = (p, a1, 0)) (h2 : (rtAny a1 xs).2.2 ≠ 0) : rdOne xs at' = none := by unfold rdOne; simp [h, h2]
theorem rdOne_3 {xs : List Int} {at' a1 a2 : Int} {p d : ByteArray} (h : rtAny at' xs = (p, a1, 0)) (h2 : rtAny a1 xs = (d, a2, 0)) (h3 : (rdAny a2 xs).2.2 ≠ 0) : rdOne xs at' = none := by unfold rdOne; simp [h, h2, h3]
theorem rdOne_4 {xs : List Int} {at' a1 a2 v a3 : Int} {p d : ByteArray} (h : rtAny at' xs = (p, a1, 0)) (h2 : rtAny a1 xs = (d, a2, 0)) (h3 : rdAny a2 xs = (v, a3, 0)) : rdOne xs at' = some (⟨p, d, v⟩, a3) := by unfold rdOne; simp [h, h2, h3]
def rdMany (xs : List Int) (at' : Int) : Nat → Option (List SeenT × Int)
  | 0 => some ([], at')
  | n + 1 => match rdMany xs at' n with
    | none => none
    | some r => match rdOne xs r.2 with
      | none => none
      | some s => some (r.1 ++ [s.1], s.2)
theorem rdMany_none {xs : List Int} {at' : Int} {n m : Nat} (h : rdMany xs at' n = none) (hm : n ≤ m) : rdMany xs at' m = none := by
  induction m with
  | zero =>
    obtain rfl : n = 0 := by omega
    exact h
  | succ m ih =>
    by_cases e : n = m + 1
    · subst e; exact h
    · simp only [rdMany, ih (by omega)]
theorem rdMany_no {xs : List Int} {at' a1 : Int} {n : Nat} {l : List SeenT} (h : rdMany xs at' n = some (l, a1)) (h1 : rdOne xs a1 = none) : rdMany xs at' (n + 1) = none := by simp only [rdMany, h, h1]
theorem rdMany_step {xs : List Int} {at' a1 a2 : Int} {n : Nat} {l : List SeenT} {s : SeenT} (h : rdMany xs at' n = some (l, a1)) (h1 : rdOne xs a1 = some (s, a2)) : rdMany xs at' (n + 1) = some (l ++ [s], a2) := by simp only [rdMany, h, h1]
theorem rdMany_len {xs : List Int} {at' : Int} : ∀ {n : Nat} {l : List SeenT} {a1 : Int}, rdMany xs at' n = some (l, a1) → l.length = n
  | 0, l, a1, h => by simp only [rdMany, Option.some.injEq, Prod.mk.injEq] at h; rw [← h.1]; rfl
  | n + 1, l, a1, h => by
    simp only [rdMany] at h
    split at h
    · cases h
    · rename_i r hr
      split at h
      · cases h
      · rename_i s hs
        simp only [Option.some.injEq, Prod.mk.injEq] at h
        have := rdMany_len (l := r.1) (a1 := r.2) hr
        rw [← h.1, List.length_append, this]
        rfl
/-- What the bytes say ahead of the nodes: stamp, place, kind, count, and where the nodes begin. -/
structure HeadT where
  st : Int
  p : ByteArray
  k : Int
  n : Int
  at' : Int
def rdHead (xs : List Int) : Option HeadT :=
  if (rdAny 0 xs).2.2 = 0 then
    if (rtAny (rdAny 0 xs).2.1 xs).2.2 = 0 then
      if (rdAny (rtAny (rdAny 0 xs).2.1 xs).2.1 xs).2.2 = 0 then
        if (rdAny (rdAny (rtAny (rdAny 0 xs).2.1 xs).2.1 xs).2.1 xs).2.2 = 0 then
          some ⟨(rdAny 0 xs).1, (rtAny (rdAny 0 xs).2.1 xs).1, (rdAny (rtAny (rdAny 0 xs).2.1 xs).2.1 xs).1, (rdAny (rdAny (rtAny (rdAny 0 xs).2.1 xs).2.1 xs).2.1 xs).1, (rdAny (rdAny (rtAny (rdAny 0 xs).2.1 xs).2.1 xs).2.1 xs).2.1⟩
        else none
      else none
    else none
  else none
theorem rdHead_1 {xs : List Int} (h : (rdAny 0 xs).2.2 ≠ 0) : rdHead xs = none := by unfold rdHead; rw [if_neg h]
theorem rdHead_2 {xs : List Int} {st a1 : Int} (h : rdAny 0 xs = (st, a1, 0)) (h2 : (rtAny a1 xs).2.2 ≠ 0) : rdHead xs = none := by unfold rdHead; simp [h, h2]
theorem rdHead_3 {xs : List Int} {st a1 a2 : Int} {p : ByteArray} (h : rdAny 0 xs = (st, a1, 0)) (h2 : rtAny a1 xs = (p, a2, 0)) (h3 : (rdAny a2 xs).2.2 ≠ 0) : rdHead xs = none := by unfold rdHead; simp [h, h2, h3]
theorem rdHead_4 {xs : List Int} {st a1 a2 k a3 : Int} {p : ByteArray} (h : rdAny 0 xs = (st, a1, 0)) (h2 : rtAny a1 xs = (p, a2, 0)) (h3 : rdAny a2 xs = (k, a3, 0)) (h4 : (rdAny a3 xs).2.2 ≠ 0) : rdHead xs = none := by unfold rdHead; simp [h, h2, h3, h4]
theorem rdHead_5 {xs : List Int} {st a1 a2 k a3 n a4 : Int} {p : ByteArray} (h : rdAny 0 xs = (st, a1, 0)) (h2 : rtAny a1 xs = (p, a2, 0)) (h3 : rdAny a2 xs = (k, a3, 0)) (h4 : rdAny a3 xs = (n, a4, 0)) : rdHead xs = some ⟨st, p, k, n, a4⟩ := by unfold rdHead; simp [h, h2, h3, h4]
/-- What the bytes say: stamp, place, kind, nodes, and where they end. -/
structure SaysT where
  st : Int
  p : ByteArray
  k : Int
  l : List SeenT
  at' : Int
def rdShot (xs : List Int) : Option SaysT :=
  match rdHead xs with
  | none => none
  | some h => if 64 < h.n then none else match rdMany xs h.at' h.n.toNat with
    | none => none
    | some r => some ⟨h.st, h.p, h.k, r.1, r.2⟩
theorem rdShot_none {xs : List Int} (h : rdHead xs = none) : rdShot xs = none := by unfold rdShot; rw [h]
theorem rdShot_many {xs : List Int} {st k n a4 : Int} {p : ByteArray} (h : rdHead xs = some ⟨st, p, k, n, a4⟩) (hn : 64 < n) : rdShot xs = none := by unfold rdShot; rw [h]; simp only; rw [if_pos hn]
theorem rdShot_bad {xs : List Int} {st k a4 : Int} {n : Nat} {p : ByteArray} (h : rdHead xs = some ⟨st, p, k, (n : Int), a4⟩) (hm : rdMany xs a4 n = none) : rdShot xs = none := by
  unfold rdShot
  rw [h]
  simp only
  split
  · rfl
  · rw [Int.toNat_natCast, hm]
theorem rdShot_ok {xs : List Int} {st k a4 a5 : Int} {n : Nat} {p : ByteArray} {l : List SeenT} (h : rdHead xs = some ⟨st, p, k, (n : Int), a4⟩) (hn : n ≤ 64) (hm : rdMany xs a4 n = some (l, a5)) : rdShot xs = some ⟨st, p, k, l, a5⟩ := by
  unfold rdShot
  rw [h]
  simp only
  rw [if_neg (by omega), Int.toNat_natCast, hm]
theorem rd_nat {xs : List Int} {at' n nx : Int} (hb : Byt xs) (h : rdAny at' xs = (n, nx, 0)) : ∃ m : Nat, n = m ∧ m ≤ 2147483647 := by
  have := rdAny_ok hb h
  exact ⟨n.toNat, by omega, by omega⟩
/-- A triple by its parts. -/
theorem rd_split (at' : Int) (xs : List Int) : (rdAny at' xs).2.2 ≠ 0 ∨ ∃ v nx, rdAny at' xs = (v, nx, 0) := by
  by_cases h : (rdAny at' xs).2.2 = 0
  · exact .inr ⟨(rdAny at' xs).1, (rdAny at' xs).2.1, by rw [← h]⟩
  · exact .inl h
theorem rt_split (at' : Int) (xs : List Int) : (rtAny at' xs).2.2 ≠ 0 ∨ ∃ v nx, rtAny at' xs = (v, nx, 0) := by
  by_cases h : (rtAny at' xs).2.2 = 0
  · exact .inr ⟨(rtAny at' xs).1, (rtAny at' xs).2.1, by rw [← h]⟩
  · exact .inl h
end Go.Proofs.YtponpkfdkdnaeaaDoor
