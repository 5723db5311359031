/-
  Numbers on bytes.
-/
import Derived.Test.YtponpkfdkdnaeaaDoorWCrc
namespace Go.Proofs.YtponpkfdkdnaeaaDoor

/-- The bytes of a number. -/
def numL (v : Nat) : List Int := if v < 128 then [(v : Int)] else ((v % 128 + 128 : Nat) : Int) :: numL (v / 128)
theorem numL_small {v : Nat} (h : v < 128) : numL v = [(v : Int)] := by rw [numL, if_pos h]
theorem numL_big {v : Nat} (h : ¬ v < 128) : numL v = ((v % 128 + 128 : Nat) : Int) :: numL (v / 128) := by rw [numL, if_neg h]
theorem numL_byt (v : Nat) : Byt (numL v) := by
  induction v using Nat.strongRecOn with
  | _ v ih =>
    by_cases h : v < 128
    · rw [numL_small h]
      intro z hz
      simp at hz
      omega
    · rw [numL_big h]
      intro z hz
      rcases List.mem_cons.1 hz with rfl | hz
      · omega
      · exact ih (v / 128) (by omega) z hz
theorem numL_len {v : Nat} : ∀ n, v < 128 ^ n → 0 < n → (numL v).length ≤ n ∧ 1 ≤ (numL v).length := by
  intro n
  induction n generalizing v with
  | zero => intro _ h; omega
  | succ n ih =>
    intro h _
    by_cases g : v < 128
    · rw [numL_small g]; simp
    · rw [numL_big g]
      cases n with
      | zero => simp at h; omega
      | succ n =>
        have := ih (v := v / 128) (by rw [Nat.div_lt_iff_lt_mul (by omega)]; rw [Nat.pow_succ] at h; exact h) (by omega)
        simp
        omega

/-- A number that is read: what it is, the place behind it, the error. -/
def rd (at' : Int) : Nat → Nat → Nat → List Int → Int × Int × Int
  | 0, _, _, _ => (0, 0, 20)
  | _ + 1, _, _, [] => (0, 0, 21)
  | n + 1, k, v, b :: r =>
    if b < 128 then (if (b = 0 ∧ 0 < k) ∨ 2147483647 < v + b.toNat % 128 * 128 ^ k then (0, 0, 20) else (((v + b.toNat % 128 * 128 ^ k : Nat) : Int), at' + k + 1, 0))
    else rd at' n (k + 1) (v + b.toNat % 128 * 128 ^ k) r

theorem rd_num (at' : Int) (rest : List Int) : ∀ (n k v x : Nat), x < 128 ^ n → 0 < n → (k = 0 ∨ 0 < x) → v + x * 128 ^ k ≤ 2147483647 →
    rd at' n k v (numL x ++ rest) = (((v + x * 128 ^ k : Nat) : Int), at' + k + (numL x).length, 0)
  | 0, _, _, _, _, h, _, _ => absurd h (by omega)
  | n + 1, k, v, x, hx, _, hk, hm => by
    by_cases h : x < 128
    · rw [numL_small h]
      simp only [List.cons_append, List.nil_append, rd]
      rw [if_pos (by omega)]
      have e : ((x : Nat) : Int).toNat % 128 = x := by omega
      rw [e, if_neg]
      · simp
      · rintro (⟨g, g'⟩ | g)
        · omega
        · omega
    · rw [numL_big h]
      simp only [List.cons_append, rd]
      rw [if_neg (by omega)]
      have e : (((x % 128 + 128 : Nat) : Int)).toNat % 128 = x % 128 := by omega
      rw [e]
      have hp : x / 128 * 128 ^ (k + 1) = x / 128 * 128 * 128 ^ k := by rw [Nat.pow_succ, Nat.mul_comm (128 ^ k), ← Nat.mul_assoc]
      have hs : v + x % 128 * 128 ^ k + x / 128 * 128 ^ (k + 1) = v + x * 128 ^ k := by
        rw [hp, Nat.add_assoc, ← Nat.add_mul]
        congr 2
        omega
      cases n with
      | zero => simp at hx; omega
      | succ n =>
        have := rd_num at' rest (n + 1) (k + 1) (v + x % 128 * 128 ^ k) (x / 128) (by rw [Nat.div_lt_iff_lt_mul (by omega)]; rw [Nat.pow_succ] at hx; exact hx) (by omega) (.inr (by omega)) (by omega)
        rw [this, hs]
        simp
        omega

theorem rd_only (at' : Int) : ∀ (n k v : Nat) (l : List Int) (x p : Int), Byt l → rd at' n k v l = (x, p, 0) →
    ∃ y l', x = ((v + y * 128 ^ k : Nat) : Int) ∧ l = numL y ++ l' ∧ p = at' + k + (numL y).length ∧ (k = 0 ∨ 0 < y) ∧ v + y * 128 ^ k ≤ 2147483647
  | 0, _, _, _, _, _, _, h => by simp [rd] at h
  | _ + 1, _, _, [], _, _, _, h => by simp [rd] at h
  | n + 1, k, v, b :: r, x, p, hb, h => by
    have hz := hb.cons
    simp only [rd] at h
    split at h
    · rename_i h1
      split at h
      · simp at h
      · rename_i h2
        simp only [Prod.mk.injEq, and_true] at h
        have eb : b.toNat % 128 = b.toNat := by omega
        rw [eb] at h h2
        refine ⟨b.toNat, r, h.1.symm, ?_, ?_, ?_, ?_⟩
        · rw [numL_small (by omega)]
          simp
          omega
        · rw [numL_small (by omega)]
          simp
          omega
        · omega
        · omega
    · rename_i h1
      obtain ⟨y, l', e1, e2, e3, e4, e5⟩ := rd_only at' n (k + 1) _ r x p hz.2 h
      have hy : 0 < y := by omega
      have hp : y * 128 ^ (k + 1) = y * 128 * 128 ^ k := by rw [Nat.pow_succ, Nat.mul_comm (128 ^ k), ← Nat.mul_assoc]
      have hs : v + b.toNat % 128 * 128 ^ k + y * 128 ^ (k + 1) = v + (b.toNat % 128 + y * 128) * 128 ^ k := by rw [hp, Nat.add_assoc, ← Nat.add_mul]
      have hn : numL (b.toNat % 128 + y * 128) = b :: numL y := by
        rw [numL_big (by omega)]
        congr 1
        · omega
        · congr 1
          omega
      refine ⟨b.toNat % 128 + y * 128, l', ?_, ?_, ?_, ?_, ?_⟩
      · rw [e1, hs]
      · rw [hn, e2]; rfl
      · rw [hn, e3]; simp; omega
      · right; omega
      · rw [← hs]; exact e5
end Go.Proofs.YtponpkfdkdnaeaaDoor
