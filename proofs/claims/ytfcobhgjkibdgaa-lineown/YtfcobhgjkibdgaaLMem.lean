/-
  line: messages, parcels, lines; what lies in memory.
-/
import Derived.Test.YtfcobhgjkibdgaaLRow
namespace Go.Proofs.Ytfcobhgjkibdgaa
open Go.RowKit
set_option linter.unusedVariables false
set_option linter.unusedSimpArgs false

/-- A message. -/
structure MsT where
  f : Int
  t : Int
  b : ByteArray
abbrev MsT.cells (m : MsT) : List Value := [.int .i64 m.f, .int .i64 m.t, .string m.b]
abbrev MsT.val (m : MsT) : Value := .agg #[.int .i64 m.f, .int .i64 m.t, .string m.b]
def msZ : MsT := ⟨0, 0, ⟨#[]⟩⟩
/-- A message in flight. -/
structure PcT where
  n : Nat
  m : MsT
  s : Bool
abbrev PcT.cells (p : PcT) : List Value := [.int .i64 p.n, .int .i64 p.m.f, .int .i64 p.m.t, .string p.m.b, .bool p.s]
/-- A line. -/
structure LnT where
  fl : List PcT
  gv : Nat
  no : Bool
abbrev lnV (v : Value) (gv : Nat) (no : Bool) : Value := .agg #[v, .int .i64 gv, .bool no]
/-- The messages in flight, as the document keeps them. -/
abbrev FlAt (w : World) (v : Value) (l : List PcT) : Prop := w.ownsRow 0 97 5 v l.length (l.flatMap PcT.cells)
abbrev InsOwn (w : World) (B : Nat) (v : Value) (l : List Int) : Prop := w.ownsRow B 3 1 v l.length (l.map (.int .i64 ·))
theorem fl_get {w : World} {v : Value} {l : List PcT} (h : FlAt w v l) {i : Nat} {p : PcT} (hp : l[i]? = some p) : ∃ g c, v = .slice (some ⟨g, 0, none⟩) l.length c ∧ g < w.heap.size ∧ w.cell? ⟨g, i * 5, none⟩ = some (.int .i64 p.n) ∧ w.cell? ⟨g, i * 5 + 1, none⟩ = some (.int .i64 p.m.f) ∧ w.cell? ⟨g, i * 5 + 2, none⟩ = some (.int .i64 p.m.t) ∧ w.cell? ⟨g, i * 5 + 3, none⟩ = some (.string p.m.b) ∧ w.cell? ⟨g, i * 5 + 4, none⟩ = some (.bool p.s) := by
  obtain ⟨a, c, rfl, hc, hn, hr⟩ := row_cells (cells := PcT.cells) (fun _ => rfl) h
  rcases hr with h0 | ⟨g, rfl, ho, _, hlt, hx⟩
  · rw [h0] at hp; cases hp
  · have hx := hx i p hp
    simp only [Nat.zero_add] at hx
    exact ⟨g, c, rfl, hlt, hx 0 _ rfl, hx 1 _ rfl, hx 2 _ rfl, hx 3 _ rfl, hx 4 _ rfl⟩
theorem fl_form {w : World} {v : Value} {l : List PcT} (h : FlAt w v l) : ∃ a c, v = .slice a l.length c ∧ l.length ≤ c := row_form h

/-- The place of a number. -/
def fnI (l : List PcT) (n : Int) : Int := match l.findIdx? (fun p => (p.n : Int) == n) with | some i => i | none => -1
/-- The message of a number. -/
def fnd (l : List PcT) (n : Int) : Option PcT := l.find? (fun p => (p.n : Int) == n)
theorem fnI_at : ∀ {l : List PcT} {n : Int} {i : Nat} {p : PcT}, l[i]? = some p → (p.n : Int) = n → (∀ (j : Nat) (q : PcT), j < i → l[j]? = some q → (q.n : Int) ≠ n) → fnI l n = i ∧ fnd l n = some p := by
  intro l n i p hp hn hb
  have hi : i < l.length := (List.getElem?_eq_some_iff.1 hp).1
  have he : l[i] = p := (List.getElem?_eq_some_iff.1 hp).2
  have h1 : l.findIdx? (fun p => (p.n : Int) == n) = some i := by
    rw [List.findIdx?_eq_some_iff_getElem]
    refine ⟨hi, by rw [he]; simpa using hn, fun j hj => ?_⟩
    have := hb j l[j] hj (List.getElem?_eq_getElem _)
    simpa using this
  refine ⟨by unfold fnI; rw [h1], ?_⟩
  unfold fnd
  rw [List.find?_eq_some_iff_getElem]
  refine ⟨by simpa using hn, i, hi, he, fun j hj => ?_⟩
  have := hb j l[j] hj (List.getElem?_eq_getElem _)
  simpa using this
theorem fnI_no {l : List PcT} {n : Int} (hb : ∀ (j : Nat) (q : PcT), l[j]? = some q → (q.n : Int) ≠ n) : fnI l n = -1 ∧ fnd l n = none := by
  have h : ∀ p ∈ l, ((p.n : Int) == n) = false := fun p hp => by
    obtain ⟨j, hj⟩ := List.getElem?_of_mem hp
    simpa using hb j p hj
  refine ⟨?_, ?_⟩
  · unfold fnI
    have : l.findIdx? (fun p => (p.n : Int) == n) = none := by
      rw [List.findIdx?_eq_none_iff]
      exact fun p hp => h p hp
    rw [this]
  · unfold fnd
    rw [List.find?_eq_none]
    intro p hp
    rw [h p hp]
    simp
/-- Where a number is. -/
theorem fnd_cases (l : List PcT) (n : Int) : (∃ i p, l[i]? = some p ∧ (p.n : Int) = n ∧ fnI l n = (i : Nat) ∧ fnd l n = some p ∧ ∀ (j : Nat) (q : PcT), j < i → l[j]? = some q → (q.n : Int) ≠ n) ∨ (fnI l n = -1 ∧ fnd l n = none ∧ ∀ (j : Nat) (q : PcT), l[j]? = some q → (q.n : Int) ≠ n) := by
  cases h : l.findIdx? (fun p => (p.n : Int) == n) with
  | none =>
    rw [List.findIdx?_eq_none_iff] at h
    have hb : ∀ (j : Nat) (q : PcT), l[j]? = some q → (q.n : Int) ≠ n := fun j q hq => by simpa using h q (List.mem_of_getElem? hq)
    exact .inr ⟨(fnI_no hb).1, (fnI_no hb).2, hb⟩
  | some i =>
    rw [List.findIdx?_eq_some_iff_getElem] at h
    obtain ⟨hi, h1, h2⟩ := h
    have hb : ∀ (j : Nat) (q : PcT), j < i → l[j]? = some q → (q.n : Int) ≠ n := fun j q hj hq => by
      have := h2 j hj
      obtain ⟨_, rfl⟩ := List.getElem?_eq_some_iff.1 hq
      simpa using this
    have h1 : ((l[i].n : Nat) : Int) = n := by simpa using h1
    exact .inl ⟨i, l[i], List.getElem?_eq_getElem _, h1, (fnI_at (List.getElem?_eq_getElem hi) h1 hb).1, (fnI_at (List.getElem?_eq_getElem hi) h1 hb).2, hb⟩
end Go.Proofs.Ytfcobhgjkibdgaa
