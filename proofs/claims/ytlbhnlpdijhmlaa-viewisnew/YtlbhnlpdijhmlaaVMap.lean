/-
  view: a map of two entries.
-/
import Derived.Test.YtlbhnlpdijhmlaaVNote
import Derived.Maps.OwnSet
namespace Go.Proofs.Ytlbhnlpdijhmlaa
open Go.RowKit
set_option linter.unusedVariables false
set_option linter.unusedSimpArgs false

abbrev tkF (b : Nat) (f : FuncId) : Value := .agg #[.func (.func f) #[.pointer (some ⟨b, 0, none⟩)] #[]]
/-- The map of what the service does with a note. -/
abbrev tkMap (v1 v2 : Value) : Obj := .map #[{ key := .int .i64 21, val := v1, born := 0 }, { key := .int .i64 23, val := v2, born := 1 }] 2
theorem look_tk {w : World} {B : Nat} {v1 v2 : Value} (h : w.heap[B]? = some (tkMap v1 v2)) (k : Int) :
    (Instr.lookup 81 (.map (some B)) (.int .i64 k) true).run Try.prog w = .ok (.tuple #[if k = 21 then v1 else if k = 23 then v2 else .agg #[.nilFunc], .bool (decide (k = 21 ∨ k = 23))]) w := by
  have hu := Try.underlying81
  have hi := Try.underlying3
  have hck : ∀ (e : Bool) (k : Int) (w : World), (Instr.checkKey e 10000 3 (.int .i64 k)).run Try.prog w = .ok () w := fun e k w => MapKept.run_checkKey hi (by first | exact .int _ _ | constructor | simp [MapKept.IsKey]) e 9999
  by_cases h1 : k = 21
  · subst h1
    simp [Instr.lookup, run_underlying hu, run_underlying hi, hck, Instr.findKey, Instr.findNow, Instr.sameNow, MapKept.run_getObj_map h]
  · by_cases h2 : k = 23
    · subst h2
      simp [Instr.lookup, run_underlying hu, run_underlying hi, hck, Instr.findKey, Instr.findNow, Instr.sameNow, MapKept.run_getObj_map h]
    · have g1 : (k == 21) = false := by simpa using h1
      have g2 : (k == 23) = false := by simpa using h2
      simp [g1, g2, Instr.lookup, run_underlying hu, run_underlying hi, hck, Instr.findKey, Instr.findNow, Instr.sameNow, MapKept.run_getObj_map h, h1, h2]
theorem chg_obj (w : World) (B : Nat) (o : Obj) : Chg w { w with heap := w.heap.setIfInBounds B o } (fun j => j = B) :=
  ⟨rfl, rfl, rfl, by simp, fun j _ hn => by
    have hn : ¬ j = B := hn
    exact Array.getElem?_setIfInBounds_ne (fun e => hn e.symm)⟩
theorem put_tk1 {w : World} {B : Nat} {v : Value} (h : w.heap[B]? = some (.map #[] 0)) : ∃ w', (Instr.mapUpdate 81 (.map (some B)) (.int .i64 21) v).run Try.prog w = .ok () w' ∧ w'.heap[B]? = some (.map #[{ key := .int .i64 21, val := v, born := 0 }] 1) ∧ Chg w w' (fun j => j = B) := by
  have hu := Try.underlying81
  have hi := Try.underlying3
  have hck : ∀ (e : Bool) (k : Int) (w : World), (Instr.checkKey e 10000 3 (.int .i64 k)).run Try.prog w = .ok () w := fun e k w => MapKept.run_checkKey hi (by simp [MapKept.IsKey]) e 9999
  refine ⟨_, by simp [Instr.mapUpdate, run_underlying hu, run_underlying hi, hck, Instr.findKey, Instr.findNow, Instr.sameNow, MapKept.run_getObj_map h, MapKept.run_setObj_map _ h], (MapKept.heap_set h).1, chg_obj _ _ _⟩
theorem put_tk2 {w : World} {B : Nat} {v1 v : Value} (h : w.heap[B]? = some (.map #[{ key := .int .i64 21, val := v1, born := 0 }] 1)) : ∃ w', (Instr.mapUpdate 81 (.map (some B)) (.int .i64 23) v).run Try.prog w = .ok () w' ∧ w'.heap[B]? = some (tkMap v1 v) ∧ Chg w w' (fun j => j = B) := by
  have hu := Try.underlying81
  have hi := Try.underlying3
  have hck : ∀ (e : Bool) (k : Int) (w : World), (Instr.checkKey e 10000 3 (.int .i64 k)).run Try.prog w = .ok () w := fun e k w => MapKept.run_checkKey hi (by simp [MapKept.IsKey]) e 9999
  refine ⟨_, by simp [Instr.mapUpdate, run_underlying hu, run_underlying hi, hck, Instr.findKey, Instr.findNow, Instr.sameNow, MapKept.run_getObj_map h, MapKept.run_setObj_map _ h], (MapKept.heap_set h).1, chg_obj _ _ _⟩
set_option maxHeartbeats 1600000 in
theorem takings_any (b : Nat) (w : World) : Calls Try.prog 31 #[.pointer (some ⟨b, 0, none⟩)] w fun e w' => ∃ B, e = .returned (.map (some B)) ∧ w'.heap[B]? = some (tkMap (tkF b 42) (tkF b 43)) ∧ w.heap.size ≤ B ∧ Below w.heap.size w w' := by
  obtain ⟨w1, hr1, hb1, hc1⟩ := put_tk1 (v := tkF b 42) (MapKept.heap_alloc w (.map #[] 0)).1
  obtain ⟨w2, hr2, hb2, hc2⟩ := put_tk2 (v := tkF b 43) hb1
  have HB2 : Hid (w2.heap[w.heap.size]? = some (tkMap (tkF b 42) (tkF b 43))) := hb2
  have HB : Hid (Below w.heap.size w w2) := by
    have h1 : Below w.heap.size w (w.alloc (.map #[] 0)) := (Below.refl _ _).alloc (Nat.le_refl _) _
    have h2 := (hc1.trans hc2).below (B := w.heap.size) h1.size (fun k _ e => Nat.le_of_eq e.symm)
    exact h1.trans h2
  have hmm := @run_makeMap Try.prog
  clear hb1 hc1 hb2 hc2
  go_enter Try.func31, Try.ntmps31
  go_wp2_with fail
  go_ret
  exact ⟨_, rfl, HB2.out, Nat.le_refl _, HB.out⟩
end Go.Proofs.Ytlbhnlpdijhmlaa
