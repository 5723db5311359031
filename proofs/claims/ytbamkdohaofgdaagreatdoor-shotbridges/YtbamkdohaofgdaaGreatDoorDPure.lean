/-
  shot: changes; what two lists of nodes differ in.
-/
import Derived.Test.YtbamkdohaofgdaaGreatDoorCFind
namespace Go.Proofs.YtbamkdohaofgdaaGreatDoor
open Go.RowKit
set_option linter.unusedVariables false
set_option linter.unusedSimpArgs false

/-- A change. -/
structure ChT where
  k : Int
  p : ByteArray
  d : ByteArray
  v : Int
abbrev ChT.cells (c : ChT) : List Value := [.int .i64 c.k, .string c.p, .string c.d, .int .i64 c.v]
def chC (k : Int) (x : SeenT) : ChT := if k = 3 then ⟨3, x.p, ⟨#[]⟩, 0⟩ else ⟨k, x.p, x.d, x.v⟩
def neB (x y : SeenT) : Bool := !(decide (x.p = y.p) && (decide (x.d = y.d) && decide (x.v = y.v)))
theorem neB_iff {x y : SeenT} : neB x y = true ↔ x ≠ y := by
  cases x with | mk p d v => cases y with | mk p' d' v' =>
  by_cases h1 : p = p' <;> by_cases h2 : d = d' <;> by_cases h3 : v = v' <;> simp [neB, h1, h2, h3]
theorem neB_not {x y : SeenT} : neB x y = false ↔ x = y := by
  cases x with | mk p d v => cases y with | mk p' d' v' =>
  by_cases h1 : p = p' <;> by_cases h2 : d = d' <;> by_cases h3 : v = v' <;> simp [neB, h1, h2, h3]
def findP (a : List SeenT) (p : ByteArray) : Option SeenT := a.find? fun x => decide (x.p = p)
/-- What a node of the second list tells. -/
def turn1 (a : List SeenT) (n : SeenT) : List ChT :=
  match findP a n.p with
  | none => [chC 1 n]
  | some x => if neB x n = true then [chC 2 n] else []
def gone1 (b : List SeenT) (x : SeenT) : List ChT := if hasP b x.p = true then [] else [chC 3 x]
def goneL (a b : List SeenT) : List ChT := (a.map (gone1 b)).flatten
def turnL (a b : List SeenT) : List ChT := (b.map (turn1 a)).flatten
theorem goneL_snoc {a b : List SeenT} {q : Nat} {x : SeenT} (h : a[q]? = some x) : goneL (a.take (q + 1)) b = goneL (a.take q) b ++ gone1 b x := by
  unfold goneL
  rw [take_snoc h, List.map_append, List.flatten_append]
  simp
theorem turnL_snoc {a b : List SeenT} {q : Nat} {x : SeenT} (h : b[q]? = some x) : turnL a (b.take (q + 1)) = turnL a (b.take q) ++ turn1 a x := by
  unfold turnL
  rw [take_snoc h, List.map_append, List.flatten_append]
  simp
/-- How far both lists are gone along. -/
structure Along (a b : List SeenT) (q m : Nat) : Prop where
  ab : ∀ (i j : Nat) (x y : SeenT), i < q → m ≤ j → a[i]? = some x → b[j]? = some y → O x.p y.p = -1
  ba : ∀ (i j : Nat) (x y : SeenT), q ≤ i → j < m → a[i]? = some x → b[j]? = some y → O y.p x.p = -1
theorem Along.start (a b : List SeenT) : Along a b 0 0 := ⟨fun i j x y h => absurd h (Nat.not_lt_zero _), fun i j x y _ h => absurd h (Nat.not_lt_zero _)⟩
theorem ge_of_asc {l : List SeenT} (h : Asc l) {i j : Nat} {x y : SeenT} (hij : i ≤ j) (hx : l[i]? = some x) (hy : l[j]? = some y) : x = y ∨ O x.p y.p = -1 := by
  by_cases e : i = j
  · subst e
    rw [hx] at hy
    exact .inl (Option.some.inj hy)
  · exact .inr (h i j x y (by omega) hx hy)
theorem O_lt_ge {x y z : ByteArray} (h : O x y = -1) (g : y = z ∨ O y z = -1) : O x z = -1 := by
  rcases g with rfl | g
  · exact h
  · exact O_trans h g
theorem O_ne {x y : ByteArray} (h : O x y = -1) : x ≠ y := fun e => by
  rw [e, O_self] at h
  omega
/-- The node of the first list comes first. -/
theorem Along.less {a b : List SeenT} {q m : Nat} {x n : SeenT} (h : Along a b q m) (hb : Asc b) (ha : Asc a) (hx : a[q]? = some x) (hn : b[m]? = some n) (ho : O x.p n.p = -1) : Along a b (q + 1) m ∧ gone1 b x = [chC 3 x] := by
  have hall : ∀ (j : Nat) (y : SeenT), m ≤ j → b[j]? = some y → O x.p y.p = -1 := fun j y hj hy => O_lt_ge ho (by
    rcases ge_of_asc hb hj hn hy with rfl | e
    · exact .inl rfl
    · exact .inr e)
  refine ⟨⟨fun i j u y hi hj hu hy => ?_, fun i j u y hi hj hu hy => h.ba i j u y (by omega) hj hu hy⟩, ?_⟩
  · by_cases e : i = q
    · subst e
      rw [hx] at hu
      cases hu
      exact hall j y hj hy
    · exact h.ab i j u y (by omega) hj hu hy
  · unfold gone1
    rw [if_neg]
    intro hp
    obtain ⟨s, hs, he⟩ := hasP_iff.1 hp
    obtain ⟨j, hj⟩ := List.getElem?_of_mem hs
    by_cases hjm : j < m
    · exact O_ne (h.ba q j x s (Nat.le_refl _) hjm hx hj) he
    · exact O_ne (hall j s (by omega) hj) he.symm
theorem findP_none {a : List SeenT} {p : ByteArray} (h : ∀ x ∈ a, x.p ≠ p) : findP a p = none := by
  unfold findP
  rw [List.find?_eq_none]
  intro x hx
  simpa using h x hx
theorem findP_at {a : List SeenT} {p : ByteArray} : ∀ {q : Nat} {x : SeenT}, a[q]? = some x → x.p = p → (∀ (i : Nat) (u : SeenT), i < q → a[i]? = some u → u.p ≠ p) → findP a p = some x := by
  induction a with
  | nil => intro q x hx; simp at hx
  | cons s a ih =>
    intro q x hx hp hu
    cases q with
    | zero =>
      simp only [List.getElem?_cons_zero, Option.some.injEq] at hx
      subst hx
      simp [findP, hp]
    | succ q =>
      have h0 : s.p ≠ p := hu 0 s (by omega) rfl
      have := ih (q := q) (x := x) (by simpa using hx) hp (fun i u hi hiu => hu (i + 1) u (by omega) (by simpa using hiu))
      unfold findP at this ⊢
      rw [List.find?_cons, decide_eq_false h0]
      exact this
/-- The node of the second list comes first. -/
theorem Along.more {a b : List SeenT} {q m : Nat} {x n : SeenT} (h : Along a b q m) (hb : Asc b) (ha : Asc a) (hx : a[q]? = some x) (hn : b[m]? = some n) (ho : O n.p x.p = -1) : Along a b q (m + 1) ∧ turn1 a n = [chC 1 n] := by
  have hall : ∀ (j : Nat) (y : SeenT), q ≤ j → a[j]? = some y → O n.p y.p = -1 := fun j y hj hy => O_lt_ge ho (by
    rcases ge_of_asc ha hj hx hy with rfl | e
    · exact .inl rfl
    · exact .inr e)
  refine ⟨⟨fun i j u y hi hj hu hy => h.ab i j u y hi (by omega) hu hy, fun i j u y hi hj hu hy => ?_⟩, ?_⟩
  · by_cases e : j = m
    · subst e
      rw [hn] at hy
      cases hy
      exact hall i u hi hu
    · exact h.ba i j u y hi (by omega) hu hy
  · unfold turn1
    rw [findP_none]
    intro s hs he
    obtain ⟨j, hj⟩ := List.getElem?_of_mem hs
    by_cases hjm : j < q
    · exact O_ne (h.ab j m s n hjm (Nat.le_refl _) hj hn) he
    · exact O_ne (hall j s (by omega) hj) he.symm
/-- Both stand at one place. -/
theorem Along.same {a b : List SeenT} {q m : Nat} {x n : SeenT} (h : Along a b q m) (hb : Asc b) (ha : Asc a) (hx : a[q]? = some x) (hn : b[m]? = some n) (ho : x.p = n.p) : Along a b (q + 1) (m + 1) ∧ gone1 b x = [] ∧ turn1 a n = if neB x n = true then [chC 2 n] else [] := by
  refine ⟨⟨fun i j u y hi hj hu hy => ?_, fun i j u y hi hj hu hy => ?_⟩, ?_, ?_⟩
  · by_cases e : i = q
    · subst e
      rw [hx] at hu
      cases hu
      rw [ho]
      exact hb m j n y (by omega) hn hy
    · exact h.ab i j u y (by omega) (by omega) hu hy
  · by_cases e : j = m
    · subst e
      rw [hn] at hy
      cases hy
      rw [← ho]
      exact ha q i x u (by omega) hx hu
    · exact h.ba i j u y (by omega) (by omega) hu hy
  · unfold gone1
    rw [if_pos]
    exact hasP_iff.2 ⟨n, List.mem_of_getElem? hn, ho.symm⟩
  · unfold turn1
    rw [findP_at hx ho (fun i u hi hu => O_ne (h.ab i m u n hi (Nat.le_refl _) hu hn))]
/-- The second list is at its end. -/
theorem Along.gone {a b : List SeenT} {q : Nat} (h : Along a b q b.length) : goneL a b = goneL (a.take q) b ++ (a.drop q).map (chC 3) ∧ turnL a (b.take b.length) = turnL a b := by
  refine ⟨?_, by rw [List.take_length]⟩
  have e : a = a.take q ++ a.drop q := (List.take_append_drop q a).symm
  have g : goneL a b = goneL (a.take q) b ++ goneL (a.drop q) b := by
    unfold goneL
    rw [← List.flatten_append, ← List.map_append, ← e]
  rw [g]
  congr 1
  have : ∀ x ∈ a.drop q, gone1 b x = [chC 3 x] := fun x hx => by
    obtain ⟨i, hi⟩ := List.getElem?_of_mem hx
    rw [List.getElem?_drop] at hi
    unfold gone1
    rw [if_neg]
    intro hp
    obtain ⟨s, hs, he⟩ := hasP_iff.1 hp
    obtain ⟨j, hj⟩ := List.getElem?_of_mem hs
    exact O_ne (h.ba _ j x s (by omega) ((List.getElem?_eq_some_iff.1 hj).1) hi hj) he
  unfold goneL
  revert this
  induction a.drop q with
  | nil => intro _; rfl
  | cons s t ih =>
    intro this
    rw [List.map_cons, List.flatten_cons, this s (.head _), ih (fun x hx => this x (.tail _ hx))]
    rfl
/-- The first list is at its end. -/
theorem Along.made {a b : List SeenT} {m : Nat} (h : Along a b a.length m) : turnL a b = turnL a (b.take m) ++ (b.drop m).map (chC 1) ∧ goneL (a.take a.length) b = goneL a b := by
  refine ⟨?_, by rw [List.take_length]⟩
  have e : b = b.take m ++ b.drop m := (List.take_append_drop m b).symm
  have g : turnL a b = turnL a (b.take m) ++ turnL a (b.drop m) := by
    unfold turnL
    rw [← List.flatten_append, ← List.map_append, ← e]
  rw [g]
  congr 1
  have : ∀ n ∈ b.drop m, turn1 a n = [chC 1 n] := fun n hx => by
    obtain ⟨i, hi⟩ := List.getElem?_of_mem hx
    rw [List.getElem?_drop] at hi
    unfold turn1
    rw [findP_none]
    intro s hs he
    obtain ⟨j, hj⟩ := List.getElem?_of_mem hs
    exact O_ne (h.ab j _ s n ((List.getElem?_eq_some_iff.1 hj).1) (by omega) hj hi) he
  unfold turnL
  revert this
  induction b.drop m with
  | nil => intro _; rfl
  | cons s t ih =>
    intro this
    rw [List.map_cons, List.flatten_cons, this s (.head _), ih (fun x hx => this x (.tail _ hx))]
    rfl
/-- The document's order: from the last to the first. -/
theorem goneL_rev (a b : List SeenT) : (goneL a b).reverse = (a.reverse.map (gone1 b)).flatten := by
  induction a with
  | nil => rfl
  | cons s a ih =>
    have e : goneL (s :: a) b = gone1 b s ++ goneL a b := by simp [goneL]
    have r : (gone1 b s).reverse = gone1 b s := by unfold gone1; split <;> rfl
    rw [e, List.reverse_append, ih, r, List.reverse_cons, List.map_append, List.flatten_append]
    simp
def chCs (l : List ChT) : List Value := (l.map ChT.cells).flatten
theorem chCs_append (l m : List ChT) : chCs (l ++ m) = chCs l ++ chCs m := by simp [chCs]
theorem chCs_len (l : List ChT) : (chCs l).length = l.length * 4 := by
  induction l with
  | nil => rfl
  | cons o os ih => simp [chCs] at *; omega
theorem chCs_at (os : List ChT) (q j : Nat) (o : ChT) (x : Value) (h : os[q]? = some o) (hx : o.cells[j]? = some x) (rest : List Value) : (chCs os ++ rest)[q * 4 + j]? = some x := by
  induction os generalizing q with
  | nil => cases h
  | cons a os ih =>
    have hj : j < 4 := (List.getElem?_eq_some_iff.1 hx).1
    cases q with
    | zero =>
      cases h
      show (o.cells ++ chCs os ++ rest)[0 * 4 + j]? = some x
      rw [Nat.zero_mul, Nat.zero_add, List.append_assoc, List.getElem?_append_left (by simpa using hj)]
      exact hx
    | succ q =>
      show (a.cells ++ chCs os ++ rest)[(q + 1) * 4 + j]? = some x
      rw [List.append_assoc, List.getElem?_append_right (by simp; omega)]
      rw [show (q + 1) * 4 + j - a.cells.length = q * 4 + j by simp; omega]
      exact ih q h
theorem chCs_one (l : List ChT) : ∀ u ∈ chCs l, u.oneCell' = true := by
  intro u hu
  simp only [chCs, List.mem_flatten, List.mem_map] at hu
  obtain ⟨c, ⟨s, _, rfl⟩, hu⟩ := hu
  simp only [ChT.cells, List.mem_cons, List.not_mem_nil, or_false] at hu
  rcases hu with rfl | rfl | rfl | rfl <;> rfl
/-- Changes that lie in memory, wherever. -/
def Hs (w : World) (a : Option Addr) (l : List ChT) : Prop :=
  l = [] ∨ ∃ b o, a = some ⟨b, o, none⟩ ∧ b < w.heap.size ∧ ∀ i s, l[i]? = some s → ∀ j x, s.cells[j]? = some x → w.cell? ⟨b, o + i * 4 + j, none⟩ = some x
theorem Hs.below {w w' : World} {a : Option Addr} {l : List ChT} (h : Hs w a l) (hb : Below w.heap.size w w') : Hs w' a l := by
  rcases h with h | ⟨b, o, ha, hlt, hs⟩
  · exact .inl h
  · refine .inr ⟨b, o, ha, Nat.lt_of_lt_of_le hlt hb.size, fun i s hi j x hx => ?_⟩
    rw [hb.cell (p := ⟨b, o + i * 4 + j, none⟩) hlt]
    exact hs i s hi j x hx
theorem Hs.at {w : World} {a : Option Addr} {l : List ChT} (h : Hs w a l) {i : Nat} {s : ChT} (hi : l[i]? = some s) : ∃ b o, a = some ⟨b, o, none⟩ ∧ b < w.heap.size ∧ w.cell? ⟨b, o + i * 4, none⟩ = some (.int .i64 s.k) ∧ w.cell? ⟨b, o + i * 4 + 1, none⟩ = some (.string s.p) ∧ w.cell? ⟨b, o + i * 4 + 2, none⟩ = some (.string s.d) ∧ w.cell? ⟨b, o + i * 4 + 3, none⟩ = some (.int .i64 s.v) := by
  rcases h with rfl | ⟨b, o, ha, hlt, hs⟩
  · cases hi
  · exact ⟨b, o, ha, hlt, hs i s hi 0 _ rfl, hs i s hi 1 _ rfl, hs i s hi 2 _ rfl, hs i s hi 3 _ rfl⟩
end Go.Proofs.YtbamkdohaofgdaaGreatDoor
