/-
  fan: a new hub, a zero one and none: what they are asked.
-/
import Derived.Test.YtjcnigffpamcgaaGreatDoorQNil
import Derived.Maps.OwnOps
import Derived.Maps.RangeWalk
namespace Go.Proofs.YtjcnigffpamcgaaGreatDoor
open Go.RowKit Go.MuLone Go.Maps
set_option linter.unusedVariables false
set_option linter.unusedSimpArgs false

def rawY (v : Value) : Option (DataW Value × List MemPlace) := some (.held v, [])
theorem keyedI : Keyed Tryz.prog 3 := int_keyed Tryz.underlying3
abbrev hubCs (room keep x last : Int) (tr mb : Nat) : Array Value := #[.int .i64 room, .int .i64 keep, .int .i32 x, .int .u32 0, .int .i64 last, .slice none 0 0, .pointer (some ⟨tr, 0, none⟩), .map (some mb)]
/-- A hub without sessions and without entries; x: its lock. -/
structure HubAt (w : World) (H tr mb : Nat) (room keep x last : Int) : Prop where
  box : w.heap[H]? = some (.cells (hubCs room keep x last tr mb) 49 (0, 0))
  map : w.ownsMap Tryz.prog 3 rawY mb 0 (.map [])
  room : 1 ≤ room
theorem HubAt.ne {w : World} {H tr mb : Nat} {room keep x last : Int} (h : HubAt w H tr mb room keep x last) : H ≠ mb := fun e => by
  obtain ⟨es, clock, hb, _⟩ := h.map
  have := h.box
  rw [e, hb] at this
  cases this
theorem HubAt.cells {w : World} {H tr mb : Nat} {room keep x last : Int} (h : HubAt w H tr mb room keep x last) : w.cell? ⟨H, 0, none⟩ = some (.int .i64 room) ∧ w.cell? ⟨H, 1, none⟩ = some (.int .i64 keep) ∧ w.cell? ⟨H, 2, none⟩ = some (.int .i32 x) ∧ w.cell? ⟨H, 4, none⟩ = some (.int .i64 last) ∧ w.cell? ⟨H, 5, none⟩ = some (.slice none 0 0) ∧ w.cell? ⟨H, 6, none⟩ = some (.pointer (some ⟨tr, 0, none⟩)) ∧ w.cell? ⟨H, 7, none⟩ = some (.map (some mb)) := by
  simp [World.cell?, h.box]
theorem HubAt.free {w : World} {H tr mb : Nat} {room keep x last : Int} (h : HubAt w H tr mb room keep x last) (o : Nat) : w.frozen? ⟨H, o, none⟩ = false := by
  simp [World.frozen?, h.box]
theorem HubAt.below {w w' : World} {H tr mb : Nat} {room keep x last : Int} (h : HubAt w H tr mb room keep x last) (hb : Below w.heap.size w w') : HubAt w' H tr mb room keep x last := by
  have hl := h.map.lt
  refine ⟨kept_block hb h.box, ?_, h.room⟩
  obtain ⟨es, clock, hm, r⟩ := h.map
  exact ⟨es, clock, by rw [hb.block mb hl]; exact hm, r⟩
theorem HubAt.locked {w : World} {H tr mb : Nat} {room keep last : Int} (h : HubAt w H tr mb room keep 0 last) : HubAt (w.setCell ⟨H, 2, none⟩ (.int .i32 1)) H tr mb room keep 1 last := by
  have hl := h.map.lt
  have hne := h.ne
  refine ⟨set_at h.box, ?_, h.room⟩
  obtain ⟨es, clock, hm, r⟩ := h.map
  refine ⟨es, clock, ?_, r⟩
  rw [(Chg.set w ⟨H, 2, none⟩ (.int .i32 1)).block mb hl (fun e => hne e.symm)]
  exact hm
theorem HubAt.back {w w2 : World} {H tr mb : Nat} {room keep last : Int} (h : HubAt w H tr mb room keep 0 last) (hb : Below (w.setCell ⟨H, 2, none⟩ (.int .i32 1)).heap.size (w.setCell ⟨H, 2, none⟩ (.int .i32 1)) w2) : Below w.heap.size w (w2.setCell ⟨H, 2, none⟩ (.int .i32 0)) := by
  have h1 := Chg.set w ⟨H, 2, none⟩ (.int .i32 1)
  have h2 := Chg.set w2 ⟨H, 2, none⟩ (.int .i32 0)
  refine ⟨h2.os.trans (hb.os.trans h1.os), h2.tape.trans (hb.tape.trans h1.tape), h2.output.trans (hb.output.trans h1.output), Nat.le_trans h1.size (Nat.le_trans hb.size h2.size), fun j hj => ?_⟩
  by_cases he : j = H
  · subst he
    rw [set_at (kept_block hb h.locked.box), h.box]
    rfl
  · rw [h2.block j (Nat.lt_of_lt_of_le (Nat.lt_of_lt_of_le hj h1.size) hb.size) he, hb.block j (Nat.lt_of_lt_of_le hj h1.size), h1.block j hj he]
theorem wpList_lookup_rawY {P : Program} (w : World) {ops : Array Oper} {rest : List Oper} {o : Oper} {a : Act} {Q : Exit → Act → World → Prop} (hg : o.guard = none) (m x : Operand) (t : TypeId) (hop : o.op = Op.lookup t m x false)
    (k e : TypeId) (K : Keyed P k) (ht : P.underlying t = some (.map k e)) {z : Value} (hz : (zeroValue e).run P w = .ok z w) (b n : Nat) (D : DataW Value)
    (hm : a.eval m = .map (some b)) (hown : w.ownsMap P k rawY b n D) (key : Value) (kl : Lit) (hx : a.eval x = key) (hkey : keyOf P k key = some kl)
    (hK : ∀ v ps, rawY v = some (D.atKey kl (.held z), ps) → wpList P ops Q rest (a.put o.dst v) w) :
    wpList P ops Q (o :: rest) a w := by
  refine wpList_plain hg fun K' hK' => ?_
  obtain ⟨v, ps, hrun, hv⟩ := hown.lookup K ht hz (zd := .held z) (zp := []) rfl hkey
  unfold Oper.wp
  simp [execOp, hop, hm, hx, hrun, Result.andThen]
  exact hK' _ _ (hK v ps hv)
theorem isNone_some {w : World} {H tr mb : Nat} {room keep x last : Int} (h : HubAt w H tr mb room keep x last) : Calls Tryz.prog 64 #[.pointer (some ⟨H, 0, none⟩)] w fun e w' => e = .returned (.bool false) ∧ w' = w := by
  have c := h.cells.1
  have hr : (room == 0) = false := by have := h.room; simp; omega
  clear h
  go_enter Tryz.func64, Tryz.ntmps64
  go_wp2_with fail
  go_ret
  exact ⟨rfl, rfl⟩
/-- No hub, or one that nobody made. -/
def NoneAt (w : World) (p : Value) : Prop := p = .pointer none ∨ ∃ H, p = .pointer (some ⟨H, 0, none⟩) ∧ w.cell? ⟨H, 0, none⟩ = some (.int .i64 0) ∧ H < w.heap.size
theorem NoneAt.below {w w' : World} {p : Value} (h : NoneAt w p) (hb : Below w.heap.size w w') : NoneAt w' p := by
  rcases h with h | ⟨H, h1, h2, h3⟩
  · exact .inl h
  · exact .inr ⟨H, h1, by rw [hb.cell (p := ⟨H, 0, none⟩) h3]; exact h2, Nat.lt_of_lt_of_le h3 hb.size⟩
theorem isNone_none {w : World} {p : Value} (h : NoneAt w p) : Calls Tryz.prog 64 #[p] w fun e w' => e = .returned (.bool true) ∧ w' = w := by
  rcases h with rfl | ⟨H, rfl, h2, h3⟩
  · go_enter Tryz.func64, Tryz.ntmps64
    go_wp2_with fail
    go_ret
    exact ⟨rfl, rfl⟩
  · clear h3
    go_enter Tryz.func64, Tryz.ntmps64
    go_wp2_with fail
    go_ret
    exact ⟨rfl, rfl⟩
end Go.Proofs.YtjcnigffpamcgaaGreatDoor
