/-
  ring: Cut.
-/
import Derived.Test.YtnmengoefpdaiaaRFilled
namespace Go.Proofs.Ytnmengoefpdaiaa
open Go.RowKit
set_option linter.unusedVariables false
set_option linter.unusedSimpArgs false

theorem szEnI : (Try.prog.info? 38).map (fun i => (i.zero, i.size)) = some (some (.agg #[.int .i64 0, .int .i64 0, .int .i64 0, .int .i64 0, .int .i64 0, .slice none 0 0]), 6) := by kernel_rfl
/-- clear of a list of entries, wherever it lies. -/
theorem run_clear_none (w : World) (ty : TypeId) (a : Option Addr) (c : Nat) : (Builtin.clear_ #[27] ty #[.slice a 0 c]).run Try.prog w = .ok (.tuple #[]) w := by
  cases a <;> simp [Builtin.clear_, run_underlying Try.underlying27]
theorem run_clear_some (w : World) (ty : TypeId) (g o n c : Nat) (cur : Array Value) (t : TypeId) (hg : w.heap[g]? = some (.cells cur t (0, 0))) (hn : 0 < n) (hfit : o + n * 6 ≤ cur.size) :
    ∃ cs : List Value, cs.length = n * 6 ∧ (Builtin.clear_ #[27] ty #[.slice (some ⟨g, o, none⟩) n c]).run Try.prog w = .ok (.tuple #[]) (w.setRow g (cur.toList.take o ++ cs ++ cur.toList.drop (o + cs.length)).toArray) := by
  have hz := (zero_of_info szEnI).1
  obtain ⟨cs, hcs⟩ : ∃ cs, (Builtin.zeroCells (Value.cells (.agg #[.int .i64 0, .int .i64 0, .int .i64 0, .int .i64 0, .int .i64 0, .slice none 0 0])) n).toList = cs := ⟨_, rfl⟩
  have hl : cs.length = n * 6 := by rw [← hcs]; simp [Builtin.zeroCells, Value.cells]
  have h1 : ∀ v ∈ cs, v.oneCell' = true := by
    intro v hv
    rw [← hcs] at hv
    simp only [Builtin.zeroCells, Array.toList_map, List.mem_map] at hv
    obtain ⟨i, _, rfl⟩ := hv
    have h6 : i % 6 < 6 := Nat.mod_lt _ (by decide)
    show ((#[Value.int .i64 0, .int .i64 0, .int .i64 0, .int .i64 0, .int .i64 0, .slice none 0 0] : Array Value)[i % 6]!).oneCell' = true
    generalize i % 6 = j at h6
    match j, h6 with
    | 0, _ => rfl
    | 1, _ => rfl
    | 2, _ => rfl
    | 3, _ => rfl
    | 4, _ => rfl
    | 5, _ => rfl
  have hst := run_storeCells_at Try.prog g o t cs 0 cur w hg (by simp; omega) h1
  refine ⟨cs, hl, ?_⟩
  cases n with
  | zero => omega
  | succ n =>
    simp [Builtin.clear_, run_underlying Try.underlying27, hz, hcs, hst]
theorem wpList_clear {w : World} {ops : Array Oper} {rest : List Oper} {o : Oper} {a : Act} {Q : Exit → Act → World → Prop} (hgd : o.guard = none) (x : Operand)
    (ho : o.op = .call { callee := .builtin .clear, args := #[x], argTypes := #[27] }) (ad : Option Addr) (n c : Nat) (hx : a.eval x = .slice ad n c) (g off : Nat) (cur : Array Value) (t : TypeId) (hg : w.heap[g]? = some (.cells cur t (0, 0)))
    (hpos : 0 < n → ad = some ⟨g, off, none⟩ ∧ off + n * 6 ≤ cur.size)
    (h : ∀ w' cur', w'.heap[g]? = some (.cells cur' t (0, 0)) → cur'.size = cur.size → (∀ i, i < off ∨ off + n * 6 ≤ i → cur'[i]? = cur[i]?) → Chg w w' (fun k => k = g) → wpList Try.prog ops Q rest (a.put o.dst (.tuple #[])) w') :
    wpList Try.prog ops Q (o :: rest) a w := by
  refine wpList_plain hgd fun K hK => ?_
  by_cases hn : n = 0
  · subst hn
    have hrun := run_clear_none w o.type ad c
    unfold Oper.wp
    simp [execOp, ho, resolve, invoke, builtin, hx, hrun, Result.andThen]
    exact hK _ _ (h w cur hg rfl (fun _ _ => rfl) (Chg.refl _ _))
  · obtain ⟨rfl, hfit⟩ := hpos (by omega)
    obtain ⟨cs, hcl, hrun⟩ := run_clear_some w o.type g off n c cur t hg (by omega) hfit
    unfold Oper.wp
    simp [execOp, ho, resolve, invoke, builtin, hx, hrun, Result.andThen]
    refine hK _ _ (h _ (cur.toList.take off ++ cs ++ cur.toList.drop (off + cs.length)).toArray ?_ ?_ ?_ (chg_setRow _ _ _))
    · have := setRow_heap w g _ (cur.toList.take off ++ cs ++ cur.toList.drop (off + cs.length)).toArray t _ hg
      simpa using this
    · simp; omega
    · intro i hi
      rw [List.getElem?_toArray, ← Array.getElem?_toList]
      rcases hi with hi | hi
      · rw [List.append_assoc, List.getElem?_append_left (by simp; omega), List.getElem?_take_of_lt hi]
      · rw [List.append_assoc, List.getElem?_append_right (by simp; omega), List.getElem?_append_right (by simp; omega), List.getElem?_drop]
        congr 1
        simp
        omega
theorem clear_any (w : World) (ad : Option Addr) (n c g off : Nat) (cur : Array Value) (t ty : TypeId) (hg : w.heap[g]? = some (.cells cur t (0, 0))) (hpos : 0 < n → ad = some ⟨g, off, none⟩ ∧ off + n * 6 ≤ cur.size) :
    ∃ w' cur', (Builtin.clear_ #[27] ty #[.slice ad n c]).run Try.prog w = .ok (.tuple #[]) w' ∧ w'.heap[g]? = some (.cells cur' t (0, 0)) ∧ cur'.size = cur.size ∧ (∀ i, i < off ∨ off + n * 6 ≤ i → cur'[i]? = cur[i]?) ∧ Chg w w' (fun k => k = g) := by
  by_cases hn : n = 0
  · subst hn
    exact ⟨w, cur, run_clear_none w ty ad c, hg, rfl, fun _ _ => rfl, Chg.refl _ _⟩
  · obtain ⟨rfl, hfit⟩ := hpos (by omega)
    obtain ⟨cs, hcl, hrun⟩ := run_clear_some w ty g off n c cur t hg (by omega) hfit
    refine ⟨_, (cur.toList.take off ++ cs ++ cur.toList.drop (off + cs.length)).toArray, hrun, ?_, ?_, ?_, chg_setRow _ _ _⟩
    · have := setRow_heap w g _ (cur.toList.take off ++ cs ++ cur.toList.drop (off + cs.length)).toArray t _ hg
      simpa using this
    · simp; omega
    · intro i hi
      rw [List.getElem?_toArray, ← Array.getElem?_toList]
      rcases hi with hi | hi
      · rw [List.append_assoc, List.getElem?_append_left (by simp; omega), List.getElem?_take_of_lt hi]
      · rw [List.append_assoc, List.getElem?_append_right (by simp; omega), List.getElem?_append_right (by simp; omega), List.getElem?_drop]
        congr 1
        simp
        omega
/-- The entries above a stamp are taken away. -/
def RingT.cut (R : RingT) (n : Int) : RingT := { R with l := R.l.take (n - R.floor).toNat }
theorem RingAt.cutd {w W : World} {b k0 : Nat} {R : RingT} (h : RingAt w b R) (hk : k0 ≤ R.l.length) (hh : R.hold ≤ R.floor + k0) (hchg : Chg w W (fun k => k = b)) (hbox : ∃ cs : Array Value, W.heap[b]? = some (.cells cs 61 (0, 0)) ∧ cs.size = 389)
    (hkeep : ∀ k, k < k0 → ∀ j v, j < 6 → w.cell? ⟨b, (R.floor + 1 + k) % R.room * 6 + j, none⟩ = some v → W.cell? ⟨b, (R.floor + 1 + k) % R.room * 6 + j, none⟩ = some v)
    (hf : ∀ i v, 384 ≤ i → i ≠ 388 → w.cell? ⟨b, i, none⟩ = some v → W.cell? ⟨b, i, none⟩ = some v) (h8 : W.cell? ⟨b, 388, none⟩ = some (.int .i64 ((R.floor + k0 : Nat) : Int))) : RingAt W b { R with l := R.l.take k0 } := by
  have hl : (R.l.take k0).length = k0 := by rw [List.length_take]; omega
  have hmx : R.floor + R.l.length ≤ 2147483647 := h.ok.max
  have hft := h.ok.fits
  refine ⟨⟨h.ok.room, by show (R.l.take k0).length ≤ R.room; rw [hl]; omega, h.ok.low, ?_, ?_, fun e he => h.ok.small e (List.mem_of_mem_take he)⟩, hbox, hf _ _ (by decide) (by decide) h.room, hf _ _ (by decide) (by decide) h.floor, hf _ _ (by decide) (by decide) h.of, hf _ _ (by decide) (by decide) h.hold, ?_, ?_⟩
  · show R.hold ≤ R.floor + (R.l.take k0).length; rw [hl]; exact hh
  · show R.floor + (R.l.take k0).length ≤ _; rw [hl]; omega
  · show _ = some (Value.int .i64 ((R.floor + (R.l.take k0).length : Nat) : Int)); rw [hl]; exact h8
  · intro k e hke
    have hkl : k < k0 := by have := (List.getElem?_eq_some_iff.1 hke).1; rw [hl] at this; exact this
    have hke' : R.l[k]? = some e := by rw [← hke, List.getElem?_take_of_lt hkl]
    obtain ⟨x, ho, hv⟩ := h.ents k e hke'
    exact ⟨x, owns_chg ho hchg (fun q hq e => h.ne ho hq e), fun j v hj => hkeep k hkl j v (List.getElem?_eq_some_iff.1 hj).1 (hv j v hj)⟩
end Go.Proofs.Ytnmengoefpdaiaa
