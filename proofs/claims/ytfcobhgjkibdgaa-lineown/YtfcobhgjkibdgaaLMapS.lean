/-
  line: what a map update and a delete leave.
-/
import Derived.Test.YtfcobhgjkibdgaaLMapR
namespace Go.Proofs.Ytfcobhgjkibdgaa
open Go.RowKit Go.Maps
set_option linter.unusedVariables false
set_option linter.unusedSimpArgs false

theorem chg_turned {w w' : World} {b : Nat} (h : w.mapTurned w' b) : Chg w w' (fun j => j = b) := by
  have g := h.grown
  exact ⟨g.os, g.tape, g.output, g.size, fun i h1 hi => g.block i h1 (fun e => hi (by cases e; rfl))⟩
theorem small_le {n : Nat} (h : n ≤ 256) : n < maxLen := Nat.lt_of_le_of_lt h (by decide)
/-- A message more. -/
theorem FlM.push {w : World} {K : Nat → Prop} {mb : Nat} {fl : List PcT} {val : PcT → Value} {tM tE : TypeId} (ht : Try.prog.underlying tM = some (.map 3 tE)) (h : FlM w K (.map (some mb)) fl val) (hl : fl.length ≤ 256) (p : PcT) (hp : fnd fl (p.n : Int) = none) (hw : (Lit.int .i64 (p.n : Int)).wf = true) :
    ∃ w', (Instr.mapUpdate tM (.map (some mb)) (.int .i64 (p.n : Int)) (val p)).run Try.prog w = .ok () w' ∧ FlM w' K (.map (some mb)) (fl ++ [p]) val ∧ Chg w w' K := by
  rcases h with ⟨h, _⟩ | ⟨mb', D, h1, h2, h3, h4⟩
  · cases h
  cases h1
  obtain ⟨w', hrun, ho, ht'⟩ := h3.store keyedI ht (small_le hl) (keyI hw) (val := val p) (d := .held (val p)) (ps := []) rfl
  have hr := h4.push hp (key_lit _)
  refine ⟨w', hrun, .inr ⟨mb, _, rfl, h2, ?_, hr⟩, ?_⟩
  · have h5 := tight ho
    rw [hr.size] at h5
    exact h5
  · exact (chg_turned ht').mono (fun j _ e => (h2 j).2 e)
/-- A message is turned. -/
theorem FlM.turn {w : World} {K : Nat → Prop} {mb : Nat} {fl : List PcT} {val : PcT → Value} {tM tE : TypeId} (ht : Try.prog.underlying tM = some (.map 3 tE)) (h : FlM w K (.map (some mb)) fl val) (hl : fl.length ≤ 256) {i : Nat} {p p' : PcT} (hp : fl[i]? = some p) (hf : fnd fl (p.n : Int) = some p) (hn : p'.n = p.n) (hb : ∀ (j : Nat) (q : PcT), j < i → fl[j]? = some q → (q.n : Int) ≠ (p.n : Int)) (hw : (Lit.int .i64 (p.n : Int)).wf = true) :
    ∃ w', (Instr.mapUpdate tM (.map (some mb)) (.int .i64 (p.n : Int)) (val p')).run Try.prog w = .ok () w' ∧ FlM w' K (.map (some mb)) (fl.set i p') val ∧ Chg w w' K := by
  rcases h with ⟨h, _⟩ | ⟨mb', D, h1, h2, h3, h4⟩
  · cases h
  cases h1
  obtain ⟨w', hrun, ho, ht'⟩ := h3.store keyedI ht (small_le hl) (keyI hw) (val := val p') (d := .held (val p')) (ps := []) rfl
  have hr := h4.turn hp hf hn hb (key_lit _)
  refine ⟨w', hrun, .inr ⟨mb, _, rfl, h2, ?_, hr⟩, ?_⟩
  · have h5 := tight ho
    rw [hr.size] at h5
    exact h5
  · exact (chg_turned ht').mono (fun j _ e => (h2 j).2 e)
/-- A message is taken out. -/
theorem FlM.drop {w : World} {K : Nat → Prop} {mb : Nat} {fl : List PcT} {val : PcT → Value} {tM tE : TypeId} (ht : Try.prog.underlying tM = some (.map 3 tE)) (h : FlM w K (.map (some mb)) fl val) (hr : fl.Pairwise (fun a b => a.n < b.n)) {n : Int} {p : PcT} (hp : fnd fl n = some p) (hw : (Lit.int .i64 n).wf = true) (ty : TypeId) :
    ∃ w', (Builtin.delete_ #[tM, 3] ty #[.map (some mb), .int .i64 n]).run Try.prog w = .ok (.tuple #[]) w' ∧ FlM w' K (.map (some mb)) (fl.filter (fun q => !((q.n : Int) == n))) val ∧ Chg w w' K := by
  rcases h with ⟨h, _⟩ | ⟨mb', D, h1, h2, h3, h4⟩
  · cases h
  cases h1
  obtain ⟨w', hrun, ho, ht'⟩ := h3.drop keyedI ht (keyI hw) ty
  have hr' := h4.drop hr hp
  refine ⟨w', hrun, .inr ⟨mb, _, rfl, h2, ?_, hr'⟩, ?_⟩
  · have h5 := tight ho
    rw [hr'.size] at h5
    exact h5
  · exact (chg_turned ht').mono (fun j _ e => (h2 j).2 e)
/-- A new map has nothing. -/
theorem FlM.made (w : World) (val : PcT → Value) : FlM (w.alloc (.map #[] 0)) (fun j => j = w.heap.size) (.map (some w.heap.size)) [] val :=
  .inr ⟨_, _, rfl, fun _ => Iff.rfl, World.ownsMap_made w _ 3 raw, rep0 val⟩
/-- What a range has met so far: xs; left: what is still to come. -/
structure Met (D : DataW Value) (left : Lit → Bool) (xs : List Int) : Prop where
  nodup : xs.Nodup
  mem : ∀ n : Int, n ∈ xs ↔ (Maps.has D (kyI n) = true ∧ left (kyI n) = false)
theorem met0 (D : DataW Value) : Met D (Maps.has D) [] := ⟨List.nodup_nil, fun n => by constructor; (intro h; cases h); (rintro ⟨h1, h2⟩; rw [h1] at h2; cases h2)⟩
theorem same_ky (a b : Int) : (kyI a).sameKey (kyI b) = decide (a = b) := by
  by_cases h : a = b
  · subst h; simp [Lit.sameKey]
  · simp [Lit.sameKey, h]
theorem Met.next {D : DataW Value} {left : Lit → Bool} {xs : List Int} (h : Met D left xs) {n : Int} (hl : left (kyI n) = true) (hn : Maps.has D (kyI n) = true) : Met D (fun z => left z && !z.sameKey (kyI n)) (xs ++ [n]) := by
  refine ⟨?_, fun m => ?_⟩
  · rw [List.nodup_append]
    refine ⟨h.nodup, by simp, fun a ha b hb => ?_⟩
    obtain rfl : b = n := by simpa using hb
    rintro rfl
    rw [((h.mem _).1 ha).2] at hl
    cases hl
  · rw [List.mem_append, h.mem, same_ky]
    by_cases e : m = n
    · subst e; simp [hn]
    · simp [e]
theorem Met.done {D : DataW Value} {left : Lit → Bool} {xs : List Int} {fl : List PcT} {val : PcT → Value} (h : Met D left xs) (hr : RepM D fl val) (h0 : ∀ kl, left kl = false) (hp : fl.Pairwise (fun a b => a.n < b.n)) : (xs.mergeSort fun x y => decide (x ≤ y)) = fl.map (fun p => (p.n : Int)) := by
  have hm : ∀ n : Int, n ∈ xs ↔ n ∈ fl.map (fun p => (p.n : Int)) := fun n => by
    rw [h.mem, hr.has]
    constructor
    · rintro ⟨h1, _⟩
      obtain ⟨p, hp⟩ := Option.isSome_iff_exists.1 h1
      obtain ⟨h2, h3⟩ := fnd_mem hp
      exact List.mem_map.2 ⟨p, h2, h3⟩
    · intro h1
      obtain ⟨p, h2, h3⟩ := List.mem_map.1 h1
      refine ⟨?_, h0 _⟩
      cases hf : fnd fl n with
      | some q => rfl
      | none =>
        have := List.find?_eq_none.1 hf p h2
        simp [h3] at this
  have hs : (fl.map (fun p => (p.n : Int))).Pairwise (· < ·) := by
    rw [List.pairwise_map]
    exact hp.imp (fun h => by omega)
  have hd : (fl.map (fun p => (p.n : Int))).Nodup := hs.imp (fun h => by omega)
  have hpm : xs.Perm (fl.map (fun p => (p.n : Int))) := (List.perm_ext_iff_of_nodup h.nodup hd).2 hm
  have h1 : (xs.mergeSort fun x y => decide (x ≤ y)).Perm (fl.map (fun p => (p.n : Int))) := (List.mergeSort_perm xs _).trans hpm
  refine List.Perm.eq_of_pairwise (le := fun a b : Int => a ≤ b) (fun a b _ _ h2 h3 => by omega) ?_ (hs.imp (fun h => by omega)) h1
  have h2 := List.pairwise_mergeSort (le := fun x y : Int => decide (x ≤ y)) (fun a b c h1 h2 => by simp at h1 h2 ⊢; omega) (fun a b => by simp; omega) xs
  exact h2.imp (fun h => by simpa using h)
theorem Met.len {D : DataW Value} {left : Lit → Bool} {xs : List Int} {fl : List PcT} {val : PcT → Value} (h : Met D left xs) (hr : RepM D fl val) : xs.length ≤ fl.length := by
  have hsub : xs ⊆ fl.map (fun p => (p.n : Int)) := fun n hn => by
    have h1 := ((h.mem n).1 hn).1
    rw [hr.has] at h1
    obtain ⟨p, hp⟩ := Option.isSome_iff_exists.1 h1
    obtain ⟨h2, h3⟩ := fnd_mem hp
    exact List.mem_map.2 ⟨p, h2, h3⟩
  have := List.Nodup.length_le_of_subset h.nodup hsub
  rwa [List.length_map] at this
end Go.Proofs.Ytfcobhgjkibdgaa
