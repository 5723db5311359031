/-
  line: what the calls of a line promise.
-/
import Derived.Test.YtfcobhgjkibdgaaLRefF
namespace Go.Proofs.Ytfcobhgjkibdgaa
open Go.RowKit
set_option linter.unusedVariables false
set_option linter.unusedSimpArgs false

/-- How a line stands. -/
structure LnT.Ok (L : LnT) : Prop where
  len : L.fl.length ≤ 256
  rise : L.fl.Pairwise (fun a b => a.n < b.n)
  top : ∀ p ∈ L.fl, 1 ≤ p.n ∧ p.n ≤ L.gv
  no : L.no = true → L.fl = [] ∧ L.gv = 0
  small : ∀ p ∈ L.fl, p.m.b.size ≤ 600
def ln0 : LnT := ⟨[], 0, false⟩
def lnN : LnT := ⟨[], 0, true⟩
theorem ok0 : ln0.Ok := ⟨Nat.zero_le _, List.Pairwise.nil, (fun p h => by cases h), (fun h => by cases h), fun p h => by cases h⟩
theorem okN : lnN.Ok := ⟨Nat.zero_le _, List.Pairwise.nil, (fun p h => by cases h), fun _ => ⟨rfl, rfl⟩, fun p h => by cases h⟩
theorem LnT.Ok.put {L : LnT} (h : L.Ok) (m : MsT) (s : Bool) (hm : m.b.size ≤ 600) : (L.put m s).1.Ok := by
  unfold LnT.put
  split
  · exact h
  · rename_i hn
    refine ⟨?_, ?_, fun p hp => ?_, (fun h => by cases h), fun p hp => ?_⟩
    · simp only [List.length_append, List.length_cons, List.length_nil]; omega
    · refine List.pairwise_append.2 ⟨h.rise, by simp, fun a ha b hb => ?_⟩
      obtain rfl : b = ⟨L.gv + 1, m, s⟩ := by simpa using hb
      have := (h.top a ha).2
      show a.n < L.gv + 1
      omega
    · rcases List.mem_append.1 hp with hp | hp
      · have := h.top p hp
        exact ⟨this.1, by show p.n ≤ L.gv + 1; omega⟩
      · obtain rfl : p = ⟨L.gv + 1, m, s⟩ := by simpa using hp
        exact ⟨by show 1 ≤ L.gv + 1; omega, Nat.le_refl _⟩
    · rcases List.mem_append.1 hp with hp | hp
      · exact h.small p hp
      · obtain rfl : p = ⟨L.gv + 1, m, s⟩ := by simpa using hp
        exact hm
theorem LnT.Ok.send {L : LnT} : ∀ {l : List MsT}, L.Ok → (∀ m ∈ l, m.b.size ≤ 600) → (L.send l).1.Ok
  | [], h, _ => h
  | m :: l, h, hm => LnT.Ok.send (L := (L.put m false).1) (h.put m false (hm m (by simp))) (fun x hx => hm x (by simp [hx]))
theorem fnd_mem {l : List PcT} {n : Int} {p : PcT} (h : fnd l n = some p) : p ∈ l ∧ (p.n : Int) = n := ⟨List.mem_of_find?_eq_some h, by simpa using List.find?_some h⟩
theorem LnT.Ok.dbl {L : LnT} (h : L.Ok) (n : Int) : (L.dbl n).1.Ok := by
  unfold LnT.dbl
  cases hf : fnd L.fl n with
  | none => exact h
  | some p =>
    dsimp only
    split
    · exact h
    · exact h.put _ _ (h.small p (fnd_mem hf).1)
theorem LnT.Ok.tak {L : LnT} (h : L.Ok) (n : Int) : (L.tak n).1.Ok := by
  unfold LnT.tak
  cases hf : fnd L.fl n with
  | none => exact h
  | some p => exact ⟨Nat.le_trans (List.length_filter_le _ _) h.len, h.rise.filter _, fun p hp => h.top p ((List.mem_filter.1 hp).1), (fun h => by cases h), fun p hp => h.small p ((List.mem_filter.1 hp).1)⟩
theorem tnB_size (s : ByteArray) (a t : Int) : (tnB s a t).size = s.size := by unfold tnB; rw [strOfNums_size, tnL_len]
theorem pair_set {l : List PcT} (h : l.Pairwise (fun a b => a.n < b.n)) {i : Nat} {p q : PcT} (hp : l[i]? = some p) (hn : q.n = p.n) : (l.set i q).Pairwise (fun a b => a.n < b.n) := by
  rw [List.pairwise_iff_getElem] at h ⊢
  intro a b ha hb hab
  obtain ⟨hi, hpi⟩ := List.getElem?_eq_some_iff.1 hp
  rw [List.length_set] at ha hb
  have := h a b ha hb hab
  rw [List.getElem_set, List.getElem_set]
  by_cases e1 : i = a
  · subst e1
    rw [if_pos rfl, if_neg (by omega), hn, ← hpi]
    exact this
  · rw [if_neg e1]
    by_cases e2 : i = b
    · subst e2
      rw [if_pos rfl, hn, ← hpi]
      exact this
    · rw [if_neg e2]
      exact this
theorem LnT.Ok.spl {L : LnT} (h : L.Ok) (n a t : Int) : (L.spl n a t).1.Ok := by
  unfold LnT.spl
  rcases fnd_cases L.fl n with ⟨i, p, hp, hn, hI, hf, _⟩ | ⟨hI, hf, _⟩
  · rw [hf]
    dsimp only
    split
    · exact h
    · split
      · exact h
      · rw [hI]
        have hmem := List.mem_of_getElem? hp
        refine ⟨by rw [List.length_set]; exact h.len, pair_set h.rise hp rfl, fun q hq => ?_, (fun h => by cases h), fun q hq => ?_⟩
        · rcases List.mem_or_eq_of_mem_set hq with hq | rfl
          · exact h.top q hq
          · exact h.top p hmem
        · rcases List.mem_or_eq_of_mem_set hq with hq | rfl
          · exact h.small q hq
          · show (tnB p.m.b a t).size ≤ 600
            rw [tnB_size]
            exact h.small p hmem
  · rw [hf]
    exact h
theorem dbl_gv (L : LnT) (n : Int) : (L.dbl n).1.gv ≤ L.gv + 1 := by
  unfold LnT.dbl
  cases fnd L.fl n with
  | none => exact Nat.le_succ _
  | some p =>
    dsimp only
    split
    · exact Nat.le_succ _
    · exact put_gv L _ _
theorem tak_gv (L : LnT) (n : Int) : (L.tak n).1.gv = L.gv := by unfold LnT.tak; cases fnd L.fl n <;> rfl
theorem spl_gv (L : LnT) (n a t : Int) : (L.spl n a t).1.gv = L.gv := by
  unfold LnT.spl
  cases fnd L.fl n with
  | none => rfl
  | some p => dsimp only; split; · rfl
              · split <;> rfl
abbrev MaxG : Nat := 2147483647
/-- What a call leaves of a line: the blocks of K' are its own. -/
structure LnE (At : World → (Nat → Prop) → LnT → Value → Prop) (w : World) (K : Nat → Prop) (L : LnT) (p : Value) (w' : World) (K' : Nat → Prop) : Prop where
  at' : At w' K' L p
  chg : Chg w w' K
  new : ∀ j, K' j → K j ∨ w.heap.size ≤ j
/-- What the calls of a line promise. -/
structure Lines (At : World → (Nat → Prop) → LnT → Value → Prop) : Prop where
  keep : ∀ {w w' : World} {K : Nat → Prop} {L : LnT} {p : Value}, At w K L p → Kp w w' K → At w' K L p
  lt : ∀ {w : World} {K : Nat → Prop} {L : LnT} {p : Value}, At w K L p → ∀ j, K j → j < w.heap.size
  sort : ∀ {w : World} {K : Nat → Prop} {L : LnT} {p : Value}, At w K L p → ∀ j cur, K j → w.heap[j]? ≠ some (.cells cur 97 (0, 0))
  nil : ∀ (w : World), At w (fun _ => False) lnN (.pointer none)
  new : ∀ (w : World), Calls Try.prog 10 #[] w fun e w' => ∃ b K, e = .returned (.pointer (some ⟨b, 0, none⟩)) ∧ At w' K ln0 (.pointer (some ⟨b, 0, none⟩)) ∧ Below w.heap.size w w' ∧ ∀ j, K j → w.heap.size ≤ j
  send : ∀ (w : World) (K : Nat → Prop) (L : LnT) (p v : Value) (l : List MsT) (P : Nat → Prop), At w K L p → L.Ok → MssAt w P v l → (∀ j, P j → ¬ K j) → (∀ m ∈ l, m.b.size ≤ 600) → L.gv + l.length ≤ MaxG → l.length ≤ 1000 →
    Calls Try.prog 11 #[p, v] w fun e w' => ∃ u K', e = .returned u ∧ InsOwn w' w.heap.size u (L.send l).2 ∧ (∀ j, u.ownBlock = some j → ¬ K' j) ∧ LnE At w K (L.send l).1 p w' K'
  take : ∀ (w : World) (K : Nat → Prop) (L : LnT) (p : Value) (n : Int), At w K L p → L.Ok → (Lit.int .i64 n).wf = true → Calls Try.prog 33 #[p, .int .i64 n] w fun e w' => ∃ K', e = .returned (.tuple #[(L.tak n).2.1.val, .int .i64 (L.tak n).2.2]) ∧ LnE At w K (L.tak n).1 p w' K'
  look : ∀ (w : World) (K : Nat → Prop) (L : LnT) (p : Value) (n : Int), At w K L p → L.Ok → (Lit.int .i64 n).wf = true → Calls Try.prog 14 #[p, .int .i64 n] w fun e w' => ∃ K', e = .returned (.tuple #[(lookM L.fl n).1.val, .int .i64 (lookM L.fl n).2]) ∧ LnE At w K L p w' K'
  double : ∀ (w : World) (K : Nat → Prop) (L : LnT) (p : Value) (n : Int), At w K L p → L.Ok → L.gv + 1 ≤ MaxG → (Lit.int .i64 n).wf = true → Calls Try.prog 12 #[p, .int .i64 n] w fun e w' => ∃ K', e = .returned (.tuple #[.int .i64 (L.dbl n).2.1, .int .i64 (L.dbl n).2.2]) ∧ LnE At w K (L.dbl n).1 p w' K'
  spoil : ∀ (w : World) (K : Nat → Prop) (L : LnT) (p : Value) (n a t : Int), At w K L p → L.Ok → (Lit.int .i64 n).wf = true → Calls Try.prog 13 #[p, .int .i64 n, .int .i64 a, .int .i64 t] w fun e w' => ∃ K', e = .returned (.int .i64 (L.spl n a t).2) ∧ LnE At w K (L.spl n a t).1 p w' K'
  numbers : ∀ (w : World) (K : Nat → Prop) (L : LnT) (p : Value), At w K L p → L.Ok → Calls Try.prog 19 #[p] w fun e w' => ∃ u K', e = .returned u ∧ InsOwn w' w.heap.size u (L.fl.map fun p => (p.n : Int)) ∧ (∀ j, u.ownBlock = some j → ¬ K' j) ∧ LnE At w K L p w' K'
end Go.Proofs.Ytfcobhgjkibdgaa
