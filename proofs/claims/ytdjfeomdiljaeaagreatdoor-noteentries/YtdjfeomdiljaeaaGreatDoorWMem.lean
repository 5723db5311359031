import Derived.WalkKit
import Derived.Test.YtdjfeomdiljaeaaGreatDoorRows
import Derived.Test.YtdjfeomdiljaeaaGreatDoorXBase
import Derived.Below
import Derived.Laws.AppendOwnNone
import Derived.Maps.AppendAt
import Derived.Deep.QuietTactic
import Derived.BigQuiet
namespace Go.Proofs.YtdjfeomdiljaeaaGreatDoor

/-- The register behind one step. -/
def turn1 (r : Nat) : Nat := if r % 2 = 1 then r / 2 ^^^ 3988292384 else r / 2
/-- Behind four steps. -/
def turn4 (r : Nat) : Nat := turn1 (turn1 (turn1 (turn1 r)))
/-- Behind a byte. -/
def step8 (r b : Nat) : Nat := turn4 (turn4 (r ^^^ b))
/-- The register behind bytes. -/
def regs (r : Nat) (l : List Int) : Nat := l.foldl (fun r b => step8 r b.toNat) r
/-- The check sum. -/
def crc (l : List Int) : Nat := regs 4294967295 l ^^^ 4294967295

/-- What four bits turn the register by. -/
def tab : List Nat := [0, 498536548, 997073096, 651767980, 1994146192, 1802195444, 1303535960, 1342533948, 3988292384, 4027552580, 3604390888, 3412177804, 2607071920, 2262029012, 2685067896, 3183342108]

theorem xor_half (a b : Nat) : (a ^^^ b) / 2 = a / 2 ^^^ b / 2 := by
  simpa [Nat.shiftRight_eq_div_pow] using Nat.shiftRight_xor_distrib (a := a) (b := b) (i := 1)
theorem xor_low (a b : Nat) : (a ^^^ b) % 2 = (a % 2 + b % 2) % 2 := by
  have := Nat.xor_mod_two_pow (a := a) (b := b) (n := 1)
  simp only [Nat.pow_one] at this
  rw [this]
  rcases Nat.mod_two_eq_zero_or_one a with h | h <;> rcases Nat.mod_two_eq_zero_or_one b with g | g <;> simp [h, g]

theorem xor_rc {a b c : Nat} (h : a ^^^ c = b ^^^ c) : a = b := by
  have : (a ^^^ c) ^^^ c = (b ^^^ c) ^^^ c := by rw [h]
  rwa [Nat.xor_assoc, Nat.xor_assoc, Nat.xor_self, Nat.xor_zero, Nat.xor_zero] at this
theorem xor_lc {a b c : Nat} (h : c ^^^ a = c ^^^ b) : a = b := by rw [Nat.xor_comm c, Nat.xor_comm c] at h; exact xor_rc h
theorem turn1_xor (a b : Nat) : turn1 (a ^^^ b) = turn1 a ^^^ turn1 b := by
  unfold turn1
  rw [xor_low, xor_half]
  rcases Nat.mod_two_eq_zero_or_one a with h | h <;> rcases Nat.mod_two_eq_zero_or_one b with g | g <;> simp [h, g]
  · rw [Nat.xor_assoc]
  · rw [Nat.xor_assoc, Nat.xor_assoc, Nat.xor_comm 3988292384]
  · rw [Nat.xor_assoc, ← Nat.xor_assoc 3988292384, Nat.xor_comm 3988292384 (b / 2), Nat.xor_assoc (b / 2), Nat.xor_self, Nat.xor_zero]
theorem turn4_xor (a b : Nat) : turn4 (a ^^^ b) = turn4 a ^^^ turn4 b := by
  unfold turn4
  rw [turn1_xor, turn1_xor, turn1_xor, turn1_xor]
theorem turn1_two (q : Nat) : turn1 (2 * q) = q := by
  unfold turn1
  rw [if_neg (by omega)]
  omega
theorem turn4_high (q : Nat) : turn4 (16 * q) = q := by
  unfold turn4
  rw [show 16 * q = 2 * (2 * (2 * (2 * q))) by omega, turn1_two, turn1_two, turn1_two, turn1_two]
theorem turn4_low : ∀ n : Fin 16, turn4 n.val = tab[n.val]?.getD 0 := by decide
theorem split16 (r : Nat) : r = 16 * (r / 16) ^^^ r % 16 := by
  have h : 16 * (r / 16) + r % 16 = r := by omega
  have e := Nat.two_pow_add_eq_or_of_lt (i := 4) (b := r % 16) (by omega) (r / 16)
  have x : (2 ^ 4 * (r / 16)) ^^^ (r % 16) = (2 ^ 4 * (r / 16)) ||| (r % 16) := by
    apply Nat.eq_of_testBit_eq
    intro j
    rw [Nat.testBit_xor, Nat.testBit_or]
    by_cases hj : j < 4
    · rw [Nat.testBit_two_pow_mul]
      simp [show ¬ 4 ≤ j by omega]
    · rw [Nat.testBit_lt_two_pow (x := r % 16) (i := j) (Nat.lt_of_lt_of_le (Nat.mod_lt _ (by omega)) (Nat.pow_le_pow_right (by omega) (show 4 ≤ j by omega) : 2 ^ 4 ≤ 2 ^ j))]
      simp
  rw [show (16 : Nat) = 2 ^ 4 by rfl] at *
  rw [x, ← e]
  omega
theorem turn4_tab (r : Nat) : turn4 r = r / 16 ^^^ tab[r % 16]?.getD 0 := by
  have h := split16 r
  have l := turn4_low ⟨r % 16, Nat.mod_lt _ (by omega)⟩
  simp only at l
  calc turn4 r = turn4 (16 * (r / 16) ^^^ r % 16) := by rw [← h]
    _ = _ := by rw [turn4_xor, turn4_high, l]

theorem turn1_lt {r : Nat} (h : r < 4294967296) : turn1 r < 4294967296 := by
  unfold turn1
  split
  · exact Nat.xor_lt_two_pow (n := 32) (by omega) (by omega)
  · omega
theorem turn4_lt {r : Nat} (h : r < 4294967296) : turn4 r < 4294967296 := turn1_lt (turn1_lt (turn1_lt (turn1_lt h)))
theorem xor_lt32 {a b : Nat} (h : a < 4294967296) (g : b < 4294967296) : a ^^^ b < 4294967296 := Nat.xor_lt_two_pow (n := 32) h g
theorem step8_lt {r b : Nat} (h : r < 4294967296) (g : b < 256) : step8 r b < 4294967296 := turn4_lt (turn4_lt (xor_lt32 h (by omega)))
/-- Bytes, as numbers. -/
def Byt (l : List Int) : Prop := ∀ z ∈ l, 0 ≤ z ∧ z < 256
theorem Byt.cons {z : Int} {l : List Int} (h : Byt (z :: l)) : (0 ≤ z ∧ z < 256) ∧ Byt l := ⟨h z (by simp), fun y hy => h y (by simp [hy])⟩
theorem Byt.append {l m : List Int} (h : Byt l) (g : Byt m) : Byt (l ++ m) := fun z hz => by
  rcases List.mem_append.1 hz with k | k
  · exact h z k
  · exact g z k
theorem Byt.left {l m : List Int} (h : Byt (l ++ m)) : Byt l := fun z hz => h z (List.mem_append.2 (.inl hz))
theorem Byt.right {l m : List Int} (h : Byt (l ++ m)) : Byt m := fun z hz => h z (List.mem_append.2 (.inr hz))
theorem Byt.take {l : List Int} (h : Byt l) (n : Nat) : Byt (l.take n) := fun z hz => h z (List.mem_of_mem_take hz)
theorem Byt.drop {l : List Int} (h : Byt l) (n : Nat) : Byt (l.drop n) := fun z hz => h z (List.mem_of_mem_drop hz)
theorem Byt.at {l : List Int} (h : Byt l) {j : Nat} {z : Int} (hj : l[j]? = some z) : 0 ≤ z ∧ z < 256 := h z (List.mem_of_getElem? hj)

theorem regs_lt : ∀ {l : List Int} {r : Nat}, r < 4294967296 → Byt l → regs r l < 4294967296
  | [], _, h, _ => h
  | z :: l, r, h, g => by
    have hz := g.cons.1
    exact regs_lt (l := l) (step8_lt h (by omega)) g.cons.2
theorem crc_lt {l : List Int} (h : Byt l) : crc l < 4294967296 := xor_lt32 (regs_lt (by omega) h) (by omega)
theorem regs_append (r : Nat) (l m : List Int) : regs r (l ++ m) = regs (regs r l) m := by unfold regs; rw [List.foldl_append]

/-! A turned byte is told. -/
theorem turn1_inj {a b : Nat} (ha : a < 4294967296) (hb : b < 4294967296) (h : turn1 a = turn1 b) : a = b := by
  have top : ∀ q, q < 2147483648 → 2147483648 ≤ q ^^^ 3988292384 := by
    intro q hq
    have h31 : (q ^^^ 3988292384).testBit 31 = true := by
      rw [Nat.testBit_xor, Nat.testBit_lt_two_pow (x := q) (i := 31) hq]
      decide
    exact Nat.ge_two_pow_of_testBit h31
  unfold turn1 at h
  split at h <;> split at h
  · have := xor_rc h
    omega
  · have := top (a / 2) (by omega)
    omega
  · have := top (b / 2) (by omega)
    omega
  · omega
theorem turn4_inj {a b : Nat} (ha : a < 4294967296) (hb : b < 4294967296) (h : turn4 a = turn4 b) : a = b :=
  turn1_inj ha hb (turn1_inj (turn1_lt ha) (turn1_lt hb) (turn1_inj (turn1_lt (turn1_lt ha)) (turn1_lt (turn1_lt hb)) (turn1_inj (turn1_lt (turn1_lt (turn1_lt ha))) (turn1_lt (turn1_lt (turn1_lt hb))) h)))
theorem step8_inj {a b x y : Nat} (ha : a < 4294967296) (hb : b < 4294967296) (hx : x < 256) (hy : y < 256) (h : step8 a x = step8 b y) : a ^^^ x = b ^^^ y :=
  turn4_inj (xor_lt32 ha (by omega)) (xor_lt32 hb (by omega)) (turn4_inj (turn4_lt (xor_lt32 ha (by omega))) (turn4_lt (xor_lt32 hb (by omega))) h)
theorem regs_inj : ∀ {l : List Int} {a b : Nat}, a < 4294967296 → b < 4294967296 → Byt l → regs a l = regs b l → a = b
  | [], _, _, _, _, _, h => h
  | z :: l, a, b, ha, hb, g, h => by
    have hz := g.cons.1
    have := regs_inj (l := l) (step8_lt ha (by omega)) (step8_lt hb (by omega)) g.cons.2 h
    exact xor_rc (step8_inj ha hb (by omega) (by omega) this)
/-- Two lists that part at one byte alone have other sums. -/
theorem crc_turned {l m : List Int} {x y : Int} (h : Byt (l ++ x :: m)) (hy : 0 ≤ y ∧ y < 256) (e : crc (l ++ x :: m) = crc (l ++ y :: m)) : x = y := by
  have e := xor_rc e
  rw [regs_append, regs_append] at e
  have hl := h.left
  have hm := h.right.cons
  have h0 : regs 4294967295 l < 4294967296 := regs_lt (by omega) hl
  have := regs_inj (step8_lt h0 (by omega)) (step8_lt h0 (by omega)) hm.2 e
  have := xor_lc (step8_inj h0 h0 (by omega) (by omega) this)
  omega
end Go.Proofs.YtdjfeomdiljaeaaGreatDoor
namespace Go.Proofs.YtdjfeomdiljaeaaGreatDoor

/-- The bytes of a number. -/
def numL (v : Nat) : List Int := if v < 128 then [(v : Int)] else ((v % 128 + 128 : Nat) : Int) :: numL (v / 128)
theorem numL_small {v : Nat} (h : v < 128) : numL v = [(v : Int)] := by rw [numL, if_pos h]
theorem numL_big {v : Nat} (h : ¬ v < 128) : numL v = ((v % 128 + 128 : Nat) : Int) :: numL (v / 128) := by rw [numL, if_neg h]
theorem numL_byt (v : Nat) : Byt (numL v) := by
  induction v using Nat.strongRecOn with
  | _ v ih =>
    by_cases h : v < 128
    · rw [numL_small h]
      intro z hz
      simp at hz
      omega
    · rw [numL_big h]
      intro z hz
      rcases List.mem_cons.1 hz with rfl | hz
      · omega
      · exact ih (v / 128) (by omega) z hz
theorem numL_len {v : Nat} : ∀ n, v < 128 ^ n → 0 < n → (numL v).length ≤ n ∧ 1 ≤ (numL v).length := by
  intro n
  induction n generalizing v with
  | zero => intro _ h; omega
  | succ n ih =>
    intro h _
    by_cases g : v < 128
    · rw [numL_small g]; simp
    · rw [numL_big g]
      cases n with
      | zero => simp at h; omega
      | succ n =>
        have := ih (v := v / 128) (by rw [Nat.div_lt_iff_lt_mul (by omega)]; rw [Nat.pow_succ] at h; exact h) (by omega)
        simp
        omega

/-- A number that is read: what it is, the place behind it, the error. -/
def rd (at' : Int) : Nat → Nat → Nat → List Int → Int × Int × Int
  | 0, _, _, _ => (0, 0, 20)
  | _ + 1, _, _, [] => (0, 0, 21)
  | n + 1, k, v, b :: r =>
    if b < 128 then (if (b = 0 ∧ 0 < k) ∨ 2147483647 < v + b.toNat % 128 * 128 ^ k then (0, 0, 20) else (((v + b.toNat % 128 * 128 ^ k : Nat) : Int), at' + k + 1, 0))
    else rd at' n (k + 1) (v + b.toNat % 128 * 128 ^ k) r

theorem rd_num (at' : Int) (rest : List Int) : ∀ (n k v x : Nat), x < 128 ^ n → 0 < n → (k = 0 ∨ 0 < x) → v + x * 128 ^ k ≤ 2147483647 →
    rd at' n k v (numL x ++ rest) = (((v + x * 128 ^ k : Nat) : Int), at' + k + (numL x).length, 0)
  | 0, _, _, _, _, h, _, _ => absurd h (by omega)
  | n + 1, k, v, x, hx, _, hk, hm => by
    by_cases h : x < 128
    · rw [numL_small h]
      simp only [List.cons_append, List.nil_append, rd]
      rw [if_pos (by omega)]
      have e : ((x : Nat) : Int).toNat % 128 = x := by omega
      rw [e, if_neg]
      · simp
      · rintro (⟨g, g'⟩ | g)
        · omega
        · omega
    · rw [numL_big h]
      simp only [List.cons_append, rd]
      rw [if_neg (by omega)]
      have e : (((x % 128 + 128 : Nat) : Int)).toNat % 128 = x % 128 := by omega
      rw [e]
      have hp : x / 128 * 128 ^ (k + 1) = x / 128 * 128 * 128 ^ k := by rw [Nat.pow_succ, Nat.mul_comm (128 ^ k), ← Nat.mul_assoc]
      have hs : v + x % 128 * 128 ^ k + x / 128 * 128 ^ (k + 1) = v + x * 128 ^ k := by
        rw [hp, Nat.add_assoc, ← Nat.add_mul]
        congr 2
        omega
      cases n with
      | zero => simp at hx; omega
      | succ n =>
        have := rd_num at' rest (n + 1) (k + 1) (v + x % 128 * 128 ^ k) (x / 128) (by rw [Nat.div_lt_iff_lt_mul (by omega)]; rw [Nat.pow_succ] at hx; exact hx) (by omega) (.inr (by omega)) (by omega)
        rw [this, hs]
        simp
        omega

theorem rd_only (at' : Int) : ∀ (n k v : Nat) (l : List Int) (x p : Int), Byt l → rd at' n k v l = (x, p, 0) →
    ∃ y l', x = ((v + y * 128 ^ k : Nat) : Int) ∧ l = numL y ++ l' ∧ p = at' + k + (numL y).length ∧ (k = 0 ∨ 0 < y) ∧ v + y * 128 ^ k ≤ 2147483647
  | 0, _, _, _, _, _, _, h => by simp [rd] at h
  | _ + 1, _, _, [], _, _, _, h => by simp [rd] at h
  | n + 1, k, v, b :: r, x, p, hb, h => by
    have hz := hb.cons
    simp only [rd] at h
    split at h
    · rename_i h1
      split at h
      · simp at h
      · rename_i h2
        simp only [Prod.mk.injEq, and_true] at h
        have eb : b.toNat % 128 = b.toNat := by omega
        rw [eb] at h h2
        refine ⟨b.toNat, r, h.1.symm, ?_, ?_, ?_, ?_⟩
        · rw [numL_small (by omega)]
          simp
          omega
        · rw [numL_small (by omega)]
          simp
          omega
        · omega
        · omega
    · rename_i h1
      obtain ⟨y, l', e1, e2, e3, e4, e5⟩ := rd_only at' n (k + 1) _ r x p hz.2 h
      have hy : 0 < y := by omega
      have hp : y * 128 ^ (k + 1) = y * 128 * 128 ^ k := by rw [Nat.pow_succ, Nat.mul_comm (128 ^ k), ← Nat.mul_assoc]
      have hs : v + b.toNat % 128 * 128 ^ k + y * 128 ^ (k + 1) = v + (b.toNat % 128 + y * 128) * 128 ^ k := by rw [hp, Nat.add_assoc, ← Nat.add_mul]
      have hn : numL (b.toNat % 128 + y * 128) = b :: numL y := by
        rw [numL_big (by omega)]
        congr 1
        · omega
        · congr 1
          omega
      refine ⟨b.toNat % 128 + y * 128, l', ?_, ?_, ?_, ?_, ?_⟩
      · rw [e1, hs]
      · rw [hn, e2]; rfl
      · rw [hn, e3]; simp; omega
      · right; omega
      · rw [← hs]; exact e5
end Go.Proofs.YtdjfeomdiljaeaaGreatDoor
namespace Go.Proofs.YtdjfeomdiljaeaaGreatDoor
open Go.RowKit

theorem trans2 {w w1 w2 : World} (h1 : Below w.heap.size w w1) (h2 : Below w1.heap.size w1 w2) : Below w.heap.size w w2 := h1.trans (h2.mono h1.size)

/-- A slice of bytes: none, or these from an address on. -/
def Bys (w : World) (a : Option Addr) (zs : List Int) : Prop :=
  zs = [] ∨ ∃ b o, a = some ⟨b, o, none⟩ ∧ b < w.heap.size ∧ ∀ (j : Nat) (z : Int), zs[j]? = some z → w.cell? ⟨b, o + j, none⟩ = some (.int .u8 z)

theorem Bys.below {w w' : World} {a : Option Addr} {zs : List Int} (h : Bys w a zs) (hb : Below w.heap.size w w') : Bys w' a zs := by
  rcases h with h | ⟨b, o, ha, hlt, hs⟩
  · exact .inl h
  · refine .inr ⟨b, o, ha, Nat.lt_of_lt_of_le hlt hb.size, fun j x hx => ?_⟩
    rw [hb.cell (p := ⟨b, o + j, none⟩) hlt]
    exact hs j x hx

/-- Bytes as values. -/
def bv (l : List Int) : List Value := l.map (Value.int .u8)
theorem bv_len (l : List Int) : (bv l).length = l.length := List.length_map _
theorem bv_append (l m : List Int) : bv (l ++ m) = bv l ++ bv m := List.map_append
theorem bv_one (l : List Int) : ∀ u ∈ bv l, u.oneCell' = true := by
  intro u hu
  obtain ⟨y, _, rfl⟩ := List.mem_map.1 hu
  rfl

/-- A row of the call's own, as a slice. -/
theorem bys_of_owns {w : World} {base n : Nat} {v : Value} {zs : List Int} (h : w.ownsRow base 5 1 v n (bv zs)) :
    ∃ a c, v = .slice a zs.length c ∧ Bys w a zs ∧ (a = none → c = 0) ∧ n = zs.length ∧ zs.length ≤ c ∧ c ≤ maxLen := by
  have hn : n = zs.length := by have := h.1; rw [bv_len] at this; omega
  subst hn
  rcases h.2 with ⟨rfl, h0⟩ | ⟨g, cap, cur, rfl, hg, hb, hn, hc, hs, ht⟩
  · have : zs = [] := List.eq_nil_of_length_eq_zero h0
    subst this
    exact ⟨none, 0, rfl, .inl rfl, fun _ => rfl, rfl, Nat.le_refl _, Nat.zero_le _⟩
  · refine ⟨some ⟨g, 0, none⟩, cap, rfl, .inr ⟨g, 0, rfl, lt_of_blk hb, fun j x hx => ?_⟩, (fun e => by cases e), rfl, hn, hc⟩
    have hj : j < zs.length := (List.getElem?_eq_some_iff.1 hx).1
    rw [Nat.zero_add, h.cellAt j (by omega)]
    simp [bv, hx]

theorem cells_at {w : World} {ad : Addr} {zs : List Int} (h : Bys w (some ad) zs) : ∀ j u, (bv zs)[j]? = some u → w.cell? (ad.add j) = some u := by
  intro j u hj
  rcases h with rfl | ⟨b, o, ha, _, hs⟩
  · simp [bv] at hj
  · have hab : ad = ⟨b, o, none⟩ := Option.some.inj ha
    subst hab
    unfold bv at hj
    rw [List.getElem?_map, Option.map_eq_some_iff] at hj
    obtain ⟨x, hx, rfl⟩ := hj
    rw [addr_add]
    exact hs j x hx

/-- Equal as far as this? -/
theorem same_part {xs ys : List Int} {k : Nat} {x y : Int} (hx : xs[k]? = some x) (hy : ys[k]? = some y) (h : x ≠ y) : xs ≠ ys := by
  intro e
  subst e
  rw [hx] at hy
  exact h (Option.some.inj hy)
theorem same_step {xs ys : List Int} {k : Nat} {x : Int} (hx : xs[k]? = some x) (hy : ys[k]? = some x) (h : xs.take k = ys.take k) : xs.take (k + 1) = ys.take (k + 1) := by
  rw [List.take_add_one, List.take_add_one, hx, hy, h]

end Go.Proofs.YtdjfeomdiljaeaaGreatDoor
