/-
  ring: a ring in memory; the small functions.
-/
import Derived.Test.YtnmengoefpdaiaaRBase
import Derived.Deep.WholeRow
namespace Go.Proofs.Ytnmengoefpdaiaa
open Go.RowKit
set_option linter.unusedVariables false
set_option linter.unusedSimpArgs false

/-- A ring. -/
structure RingT where
  room : Nat
  floor : Nat
  hold : Nat
  of : Int
  l : List EnT
abbrev RingT.last (R : RingT) : Nat := R.floor + R.l.length
def RingT.top (R : RingT) : Int := match R.l.getLast? with | none => R.of | some e => e.v
structure RingT.Ok (R : RingT) : Prop where
  room : R.room ≤ 64
  fits : R.l.length ≤ R.room
  low : R.floor ≤ R.hold
  high : R.hold ≤ R.last
  max : R.last ≤ 2147483647
  small : ∀ e ∈ R.l, e.Small
structure RingAt (w : World) (b : Nat) (R : RingT) : Prop where
  ok : R.Ok
  box : ∃ cs : Array Value, w.heap[b]? = some (.cells cs 61 (0, 0)) ∧ cs.size = 389
  room : w.cell? ⟨b, 384, none⟩ = some (.int .i64 R.room)
  floor : w.cell? ⟨b, 385, none⟩ = some (.int .i64 R.floor)
  of : w.cell? ⟨b, 386, none⟩ = some (.int .i64 R.of)
  hold : w.cell? ⟨b, 387, none⟩ = some (.int .i64 R.hold)
  last : w.cell? ⟨b, 388, none⟩ = some (.int .i64 R.last)
  ents : ∀ k e, R.l[k]? = some e → ∃ x, OwnOps w x e.ops ∧ ∀ j v, (PEnt.cells ⟨e, x⟩)[j]? = some v → w.cell? ⟨b, (R.floor + 1 + k) % R.room * 6 + j, none⟩ = some v
theorem RingAt.free {w : World} {b : Nat} {R : RingT} (h : RingAt w b R) (o : Nat) : w.frozen? ⟨b, o, none⟩ = false := by
  obtain ⟨cs, hb, _⟩ := h.box
  simp [World.frozen?, hb]
theorem RingAt.lt {w : World} {b : Nat} {R : RingT} (h : RingAt w b R) : b < w.heap.size := by
  obtain ⟨cs, hb, _⟩ := h.box
  exact lt_of_blk hb
theorem RingAt.below {w w' : World} {b : Nat} {R : RingT} (h : RingAt w b R) (hb : Below w.heap.size w w') : RingAt w' b R := by
  have hc : ∀ o v, w.cell? ⟨b, o, none⟩ = some v → w'.cell? ⟨b, o, none⟩ = some v := fun o v hv => by rw [hb.cell (p := ⟨b, o, none⟩) h.lt]; exact hv
  obtain ⟨cs, hx, hz⟩ := h.box
  refine ⟨h.ok, ⟨cs, by rw [hb.block b h.lt]; exact hx, hz⟩, hc _ _ h.room, hc _ _ h.floor, hc _ _ h.of, hc _ _ h.hold, hc _ _ h.last, fun k e hk => ?_⟩
  obtain ⟨x, ho, hv⟩ := h.ents k e hk
  exact ⟨x, owns_below ho hb, fun j v hj => hc _ _ (hv j v hj)⟩

theorem isNumber_any (n : Int) (w : World) : Calls Try.prog 33 #[.int .i64 n] w fun e w' => e = .returned (.bool (decide (0 ≤ n) && decide (n ≤ 2147483647))) ∧ w' = w := by
  go_enter Try.func33, Try.ntmps33
  by_cases h : 0 ≤ n
  · go_wp2_with fail
    go_ret
    exact ⟨by simp [h], rfl⟩
  · go_wp2_with fail
    go_ret
    exact ⟨by simp [h]; omega, rfl⟩
set_option maxHeartbeats 1600000 in
theorem isFull_raw (b room floor last : Nat) (w : World) (c0 : w.cell? ⟨b, 384, none⟩ = some (.int .i64 room)) (c1 : w.cell? ⟨b, 385, none⟩ = some (.int .i64 floor)) (c2 : w.cell? ⟨b, 388, none⟩ = some (.int .i64 last)) (h1 : floor ≤ last) (h2 : last ≤ 2147483647) :
    Calls Try.prog 30 #[.pointer (some ⟨b, 0, none⟩)] w fun e w' => e = .returned (.bool (decide (last - floor = room))) ∧ ∃ n, w' = w.drewN n := by
  go_enter Try.func30, Try.ntmps30
  go_wp2_with fail
  go_quiet (fail)
  go_wp2_with fail
  go_ret
  refine ⟨?_, _, rfl⟩
  show Ending.returned (Value.bool ((last : Int) - floor == room)) = _
  have hq : ((last : Int) - floor == room) = decide (last - floor = room) := by
    rw [Bool.eq_iff_iff]
    simp
    omega
  rw [hq]
theorem isFull_any (b : Nat) (R : RingT) (w : World) (h : RingAt w b R) : Calls Try.prog 30 #[.pointer (some ⟨b, 0, none⟩)] w fun e w' => e = .returned (.bool (decide (R.l.length = R.room))) ∧ ∃ n, w' = w.drewN n := by
  refine (isFull_raw b R.room R.floor R.last w h.room h.floor h.last (Nat.le_add_right _ _) h.ok.max).mono ?_
  rintro e w' ⟨rfl, hb⟩
  exact ⟨by rw [show R.last - R.floor = R.l.length by show R.floor + R.l.length - R.floor = _; omega], hb⟩
set_option maxHeartbeats 1600000 in
theorem isFree_raw (b hold last : Nat) (n : Int) (w : World) (c0 : w.cell? ⟨b, 387, none⟩ = some (.int .i64 hold)) (c2 : w.cell? ⟨b, 388, none⟩ = some (.int .i64 last)) :
    Calls Try.prog 31 #[.pointer (some ⟨b, 0, none⟩), .int .i64 n] w fun e w' => e = .returned (.int .i64 (if n < hold then 63 else if (last : Int) < n then 61 else 0)) ∧ w' = w := by
  go_enter Try.func31, Try.ntmps31
  go_wp2_with fail
  all_goals go_ret
  · exact ⟨rfl, rfl⟩
  · exact ⟨rfl, rfl⟩
  · exact ⟨rfl, rfl⟩
def RingT.free (R : RingT) (n : Int) : Int := if n < R.hold then 63 else if (R.last : Int) < n then 61 else 0
theorem isFree_any (b : Nat) (R : RingT) (n : Int) (w : World) (h : RingAt w b R) : Calls Try.prog 31 #[.pointer (some ⟨b, 0, none⟩), .int .i64 n] w fun e w' => e = .returned (.int .i64 (R.free n)) ∧ w' = w :=
  isFree_raw b R.hold R.last n w h.hold h.last

/-- A ring, or none. -/
def zeroR : RingT := ⟨0, 0, 0, 0, []⟩
def RP (w : World) (p : Option Addr) (R : RingT) : Prop := (p = none ∧ R = zeroR) ∨ ∃ b, p = some ⟨b, 0, none⟩ ∧ RingAt w b R
theorem RP.below {w w' : World} {p : Option Addr} {R : RingT} (h : RP w p R) (hb : Below w.heap.size w w') : RP w' p R := by
  rcases h with h | ⟨b, h, hr⟩
  · exact .inl h
  · exact .inr ⟨b, h, hr.below hb⟩
set_option maxHeartbeats 1600000 in
theorem orZero_some (b : Nat) (w : World) : Calls Try.prog 22 #[.pointer (some ⟨b, 0, none⟩)] w fun e w' => e = .returned (.pointer (some ⟨b, 0, none⟩)) ∧ w' = w := by
  go_enter Try.func22, Try.ntmps22
  go_wp2_with fail
  go_ret
  exact ⟨rfl, rfl⟩
/-- The cells of a ring that is all zero. -/
def zeroCs : Array Value := ((List.replicate 64 [Value.int .i64 0, Value.int .i64 0, Value.int .i64 0, Value.int .i64 0, Value.int .i64 0, Value.slice none 0 0]).flatten ++ [Value.int .i64 0, Value.int .i64 0, Value.int .i64 0, Value.int .i64 0, Value.int .i64 0]).toArray
theorem zero_ring : (Try.prog.info? 61).map (fun i => (i.zero, i.size)) = some (some (.agg zeroCs), 389) := by kernel_rfl
theorem zeroCs_size : zeroCs.size = 389 := by kernel_rfl
theorem zeroCs_at : zeroCs[384]? = some (.int .i64 0) ∧ zeroCs[385]? = some (.int .i64 0) ∧ zeroCs[386]? = some (.int .i64 0) ∧ zeroCs[387]? = some (.int .i64 0) ∧ zeroCs[388]? = some (.int .i64 0) := ⟨by kernel_rfl, by kernel_rfl, by kernel_rfl, by kernel_rfl, by kernel_rfl⟩
set_option maxHeartbeats 1600000 in
theorem orZero_none (w : World) : Calls Try.prog 22 #[.pointer none] w fun e w' => e = .returned (.pointer (some ⟨w.heap.size, 0, none⟩)) ∧ RingAt w' w.heap.size zeroR ∧ Below w.heap.size w w' := by
  have hz := (zero_of_info zero_ring).1
  have hs := (zero_of_info zero_ring).2
  obtain ⟨Z, hZ⟩ : ∃ Z, Z = zeroCs := ⟨_, rfl⟩
  rw [← hZ] at hz
  have HZ : Hid (Z = zeroCs) := hZ
  clear hZ
  go_enter Try.func22, Try.ntmps22
  go_wp2_with fail
  go_ret
  have hx : (w.alloc (.cells Z 61)).heap[w.heap.size]? = some (.cells Z 61 (0, 0)) := heap_alloc_new _ _
  refine ⟨rfl, ⟨⟨by decide, by decide, by decide, by decide, by decide, fun e he => (by cases he)⟩, ⟨Z, hx, by rw [HZ.out]; exact zeroCs_size⟩, ?_, ?_, ?_, ?_, ?_, fun k e hk => by cases hk⟩, (Below.refl _ _).alloc (Nat.le_refl _) _⟩
  all_goals rw [cell_blk hx, HZ.out]
  · exact zeroCs_at.1
  · exact zeroCs_at.2.1
  · exact zeroCs_at.2.2.1
  · exact zeroCs_at.2.2.2.1
  · exact zeroCs_at.2.2.2.2
set_option maxHeartbeats 1600000 in
theorem at_raw (b room : Nat) (s : Nat) (w : World) (c0 : w.cell? ⟨b, 384, none⟩ = some (.int .i64 room)) (h0 : 0 < room) (h1 : room ≤ 64) (hs : s ≤ 2147483647) :
    Calls Try.prog 25 #[.pointer (some ⟨b, 0, none⟩), .int .i64 s] w fun e w' => e = .returned (.pointer (some ⟨b, s % room * 6, none⟩)) ∧ ∃ n, w' = w.drewN n := by
  have hr0 : ¬ (room : Int) = 0 := by omega
  have hr1 : ((room : Int) == 0) = false := by simpa using hr0
  have hm : Int.tmod (s : Int) (room : Int) = ((s % room : Nat) : Int) := by
    rw [Int.tmod_eq_emod_of_nonneg (by omega)]; rfl
  have hlt : s % room < room := Nat.mod_lt _ h0
  have hlt' : ((s % room : Nat) : Int) < 64 := by omega
  go_enter Try.func25, Try.ntmps25
  go_wp2_with fail
  go_big_quiet (fail)
  go_wp2_with fail
  go_ret
  exact ⟨rfl, _, rfl⟩
theorem orZero_any (p : Option Addr) (R : RingT) (w : World) (h : RP w p R) : Calls Try.prog 22 #[.pointer p] w fun e w' => ∃ b, e = .returned (.pointer (some ⟨b, 0, none⟩)) ∧ RingAt w' b R ∧ Below w.heap.size w w' ∧ ((p = some ⟨b, 0, none⟩ ∧ w' = w) ∨ (p = none ∧ R = zeroR ∧ w.heap.size ≤ b)) := by
  rcases h with ⟨rfl, rfl⟩ | ⟨b, rfl, hr⟩
  · refine (orZero_none w).mono ?_
    rintro e w' ⟨rfl, hr, hb⟩
    exact ⟨_, rfl, hr, hb, .inr ⟨rfl, rfl, Nat.le_refl _⟩⟩
  · refine (orZero_some b w).mono ?_
    rintro e w' ⟨rfl, rfl⟩
    exact ⟨_, rfl, hr, Below.refl _ _, .inl ⟨rfl, rfl⟩⟩
end Go.Proofs.Ytnmengoefpdaiaa
