/-
  line: the messages in a map by their numbers.
-/
import Derived.Test.YtfcobhgjkibdgaaLServe
import Derived.Maps.OwnSet
import Derived.Maps.OwnOps
import Derived.Maps.Views
namespace Go.Proofs.Ytfcobhgjkibdgaa
open Go.RowKit Go.Maps
set_option linter.unusedVariables false
set_option linter.unusedSimpArgs false

def raw (v : Value) : Option (DataW Value × List MemPlace) := some (.held v, [])
theorem raw_inv {v u : Value} {ps : List MemPlace} (h : raw v = some (.held u, ps)) : v = u := by
  simp only [raw, Option.some.injEq, Prod.mk.injEq, DataW.held.injEq] at h
  exact h.1
abbrev kyI (n : Int) : Lit := .int .i64 n
theorem kyI_ne {a b : Int} (h : a ≠ b) : kyI a ≠ kyI b := fun e => h (by simpa [kyI] using e)
theorem tight {P : Program} {w : World} {b n : Nat} {D : DataW Value} (h : w.ownsMap P 3 raw b n D) : w.ownsMap P 3 raw b (Maps.size D) D := by
  obtain ⟨es, clock, hb, F, hs, rfl⟩ := h
  exact ⟨es, clock, hb, F, by simp [Maps.size, length_sorted], rfl⟩
/-- A map has just these, by their numbers. -/
structure RepM (D : DataW Value) (fl : List PcT) (val : PcT → Value) : Prop where
  tidy : Maps.Tidy D
  has : ∀ n : Int, Maps.has D (kyI n) = (fnd fl n).isSome
  at' : ∀ (n : Int) (p : PcT) (z : DataW Value), fnd fl n = some p → D.atKey (kyI n) z = .held (val p)
  size : Maps.size D = fl.length
  only : ∀ k, Maps.has D k = true → ∃ n, k = kyI n
theorem rep0 (val : PcT → Value) : RepM (.map []) [] val := ⟨Maps.tidy_empty, fun n => rfl, (fun n p z h => by cases h), rfl, fun k h => by cases h⟩
theorem fnd_snoc {fl : List PcT} {p : PcT} (n : Int) : fnd (fl ++ [p]) n = match fnd fl n with | some q => some q | none => if (p.n : Int) = n then some p else none := by
  unfold fnd
  rw [List.find?_append]
  cases fl.find? (fun p => (p.n : Int) == n) with
  | some q => rfl
  | none =>
    show (none.or (List.find? _ [p])) = _
    simp only [Option.none_or, List.find?_cons, List.find?_nil]
    by_cases h : (p.n : Int) = n
    · have hb : ((p.n : Int) == n) = true := by simpa using h
      rw [hb, if_pos h]
    · have hb : ((p.n : Int) == n) = false := by simpa using h
      rw [hb, if_neg h]
theorem key_lit (n : Int) : WideAt.IsKeyLit (kyI n) := trivial
theorem RepM.push {D : DataW Value} {fl : List PcT} {val : PcT → Value} (h : RepM D fl val) {p : PcT} (hp : fnd fl (p.n : Int) = none) (hk : WideAt.IsKeyLit (kyI (p.n : Int))) : RepM (D.put (kyI (p.n : Int)) (.held (val p))) (fl ++ [p]) val := by
  refine ⟨h.tidy.put hk _, fun n => ?_, fun n q z hq => ?_, ?_, fun k hk' => ?_⟩
  · rw [fnd_snoc]
    by_cases e : (p.n : Int) = n
    · subst e
      rw [Maps.has_put_same h.tidy.isMap hk, hp]
      simp
    · rw [Maps.has_put_other (kyI_ne (fun e' => e e'.symm)), h.has n]
      cases fnd fl n <;> simp [e]
  · rw [fnd_snoc] at hq
    by_cases e : (p.n : Int) = n
    · subst e
      rw [hp] at hq
      simp at hq
      subst hq
      exact Maps.atKey_put_same h.tidy.isMap hk _ _
    · rw [Maps.atKey_put_other (kyI_ne (fun e' => e e'.symm))]
      refine h.at' n q z ?_
      cases hf : fnd fl n with
      | some q' => rw [hf] at hq; exact hq
      | none => rw [hf] at hq; simp [e] at hq
  · rw [Maps.size_put h.tidy, h.has, hp, List.length_append, h.size]
    rfl
  · by_cases e : k = kyI (p.n : Int)
    · exact ⟨_, e⟩
    · rw [Maps.has_put_other e] at hk'
      exact h.only k hk'
theorem fnd_filter (fl : List PcT) (n m : Int) : fnd (fl.filter (fun q => !((q.n : Int) == n))) m = if m = n then none else fnd fl m := by
  unfold fnd
  rw [List.find?_filter]
  by_cases e : m = n
  · subst e
    rw [if_pos rfl, List.find?_eq_none]
    intro x _
    simp
  · rw [if_neg e]
    congr 1
    funext q
    rw [Bool.eq_iff_iff]
    simp
    intro h
    omega
theorem RepM.drop {D : DataW Value} {fl : List PcT} {val : PcT → Value} (h : RepM D fl val) (hr : fl.Pairwise (fun a b => a.n < b.n)) {n : Int} {p : PcT} (hp : fnd fl n = some p) : RepM (D.del (kyI n)) (fl.filter (fun q => !((q.n : Int) == n))) val := by
  refine ⟨h.tidy.del _, fun m => ?_, fun m q z hq => ?_, ?_, fun k hk => ?_⟩
  · rw [fnd_filter]
    by_cases e : m = n
    · subst e
      rw [Maps.has_del_same, if_pos rfl]
      rfl
    · rw [Maps.has_del_other (kyI_ne e), if_neg e, h.has]
  · rw [fnd_filter] at hq
    by_cases e : m = n
    · rw [if_pos e] at hq; cases hq
    · rw [if_neg e] at hq
      rw [Maps.atKey_del_other (kyI_ne e)]
      exact h.at' m q z hq
  · have h1 := Maps.size_del h.tidy (k := kyI n)
    rw [h.has, hp, h.size] at h1
    simp at h1
    obtain ⟨hm, hn⟩ := fnd_mem hp
    have h2 : (fl.filter (fun q => !((q.n : Int) == n))).length + 1 = fl.length := by
      clear h h1
      induction fl with
      | nil => cases hm
      | cons x l ih =>
        rw [List.pairwise_cons] at hr
        by_cases e : (x.n : Int) = n
        · have : l.filter (fun q => !((q.n : Int) == n)) = l := by
            rw [List.filter_eq_self]
            intro q hq
            have := hr.1 q hq
            simp
            omega
          rw [List.filter_cons, this]
          simp [e]
        · rw [List.filter_cons]
          have hx : (!((x.n : Int) == n)) = true := by simpa using e
          rw [hx]
          have hpl : p ∈ l := by
            rcases List.mem_cons.1 hm with rfl | h
            · exact absurd hn e
            · exact h
          have := ih hr.2 (by unfold fnd at hp ⊢; rw [List.find?_cons, show ((x.n : Int) == n) = false by simpa using e] at hp; exact hp) hpl
          simp
          exact this
    omega
  · by_cases e : k = kyI n
    · rw [e, Maps.has_del_same] at hk; cases hk
    · rw [Maps.has_del_other e] at hk
      exact h.only k hk
theorem fnd_set {fl : List PcT} {i : Nat} {p p' : PcT} (hp : fl[i]? = some p) (hn : p'.n = p.n) (hb : ∀ (j : Nat) (q : PcT), j < i → fl[j]? = some q → (q.n : Int) ≠ (p.n : Int)) (m : Int) : fnd (fl.set i p') m = if m = (p.n : Int) then some p' else fnd fl m := by
  have hi := (List.getElem?_eq_some_iff.1 hp).1
  by_cases e : m = (p.n : Int)
  · rw [if_pos e]
    refine (fnI_at (i := i) (by rw [List.getElem?_set_self hi]) (by rw [hn, e]) (fun j q hj hq => ?_)).2
    rw [List.getElem?_set_ne (by omega)] at hq
    rw [e]
    exact hb j q hj hq
  · rw [if_neg e]
    rcases fnd_cases fl m with ⟨k, q, hk, hq, _, hf, hbf⟩ | ⟨_, hf, hno⟩
    · have hki : k ≠ i := fun h => by subst h; rw [hp] at hk; cases hk; exact e hq.symm
      rw [hf]
      refine (fnI_at (i := k) (by rw [List.getElem?_set_ne (fun h => hki h.symm)]; exact hk) hq (fun j r hj hr => ?_)).2
      by_cases hji : j = i
      · subst hji
        rw [List.getElem?_set_self hi] at hr
        cases hr
        rw [hn]
        exact fun h => e h.symm
      · rw [List.getElem?_set_ne (fun h => hji h.symm)] at hr
        exact hbf j r hj hr
    · rw [hf]
      refine (fnI_no (fun j r hr => ?_)).2
      by_cases hji : j = i
      · subst hji
        rw [List.getElem?_set_self hi] at hr
        cases hr
        rw [hn]
        exact fun h => e h.symm
      · rw [List.getElem?_set_ne (fun h => hji h.symm)] at hr
        exact hno j r hr
theorem RepM.turn {D : DataW Value} {fl : List PcT} {val : PcT → Value} (h : RepM D fl val) {i : Nat} {p p' : PcT} (hp : fl[i]? = some p) (hf : fnd fl (p.n : Int) = some p) (hn : p'.n = p.n) (hb : ∀ (j : Nat) (q : PcT), j < i → fl[j]? = some q → (q.n : Int) ≠ (p.n : Int)) (hk : WideAt.IsKeyLit (kyI (p.n : Int))) : RepM (D.put (kyI (p.n : Int)) (.held (val p'))) (fl.set i p') val := by
  refine ⟨h.tidy.put hk _, fun m => ?_, fun m q z hq => ?_, ?_, fun k hk' => ?_⟩
  · rw [fnd_set hp hn hb]
    by_cases e : m = (p.n : Int)
    · subst e
      rw [Maps.has_put_same h.tidy.isMap hk, if_pos rfl]
      rfl
    · rw [Maps.has_put_other (kyI_ne e), if_neg e, h.has]
  · rw [fnd_set hp hn hb] at hq
    by_cases e : m = (p.n : Int)
    · subst e
      rw [if_pos rfl] at hq
      cases hq
      exact Maps.atKey_put_same h.tidy.isMap hk _ _
    · rw [if_neg e] at hq
      rw [Maps.atKey_put_other (kyI_ne e)]
      exact h.at' m q z hq
  · rw [Maps.size_put h.tidy, h.has, hf, List.length_set, h.size]
    rfl
  · by_cases e : k = kyI (p.n : Int)
    · exact ⟨_, e⟩
    · rw [Maps.has_put_other e] at hk'
      exact h.only k hk'
end Go.Proofs.Ytfcobhgjkibdgaa
