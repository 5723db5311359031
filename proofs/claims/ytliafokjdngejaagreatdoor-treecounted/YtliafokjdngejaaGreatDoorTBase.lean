import Derived.Test.YtliafokjdngejaaGreatDoorParent
import Derived.Maps.OwnSet
import Derived.Maps.Ext
import Derived.WalkMore
import Derived.OneCell
namespace Go.Proofs.YtliafokjdngejaaGreatDoor
open Go.RowKit

theorem name_err {s : ByteArray} {code : Int} (h : parse s = (code, [])) (w : World) (hg : Ground w) :
    Calls Tryz.prog 45 #[.string s] w fun e w' => e = .returned (.tuple #[.string ⟨#[]⟩, .int .i64 code]) ∧ Below w.heap.size w w' := by
  have HP : Hid _ := parse_none h
  have HG : Hid (Ground w) := hg
  clear hg h
  by_cases hc : code = 0
  · subst hc
    go_enter Tryz.func45, Tryz.ntmps45
    go_wp2_with (first | (go_at_call 21; refine (HP.out _ HG.out).mono ?_; rintro e w1 ⟨rfl, hb⟩; have HB : Hid _ := hb; clear hb))
    go_ret2
    exact ⟨rfl, HB.out⟩
  · have hc' : (code != 0) = true := by simpa using hc
    go_enter Tryz.func45, Tryz.ntmps45
    go_wp2_with (first | (go_at_call 21; refine (HP.out _ HG.out).mono ?_; rintro e w1 ⟨rfl, hb⟩; have HB : Hid _ := hb; clear hb))
    go_ret2
    exact ⟨rfl, HB.out⟩
theorem name_some {s : ByteArray} {xs : List ByteArray} (h : parse s = (0, xs)) (k : Nat) (hk : xs.length = k + 1) (x : ByteArray) (hx : xs[k]? = some x) (w : World) (hg : Ground w) :
    Calls Tryz.prog 45 #[.string s] w fun e w' => e = .returned (.tuple #[.string x, .int .i64 0]) ∧ Below w.heap.size w w' := by
  have hl := parse_len h
  have HP : Hid _ := parse_some h (fun e => by rw [e] at hk; simp at hk)
  have HG : Hid (Ground w) := hg
  have HX : Hid _ := hx
  have hk6 : k ≤ 5 := by omega
  have hk0 : ((k : Int) + 1 == 0) = false := by simp; omega
  clear hg h hl hx
  go_enter Tryz.func45, Tryz.ntmps45
  go_wp2_with (first | (go_at_call 21; refine (HP.out _ HG.out).mono ?_; rintro e w1 ⟨b, rfl, _, hblk, hb⟩; have hcell := cell_of_block hblk HX.out; have HB : Hid _ := hb; clear hb hblk))
  go_ret2
  exact ⟨rfl, HB.out⟩
end Go.Proofs.YtliafokjdngejaaGreatDoor
namespace Go.Proofs.YtliafokjdngejaaGreatDoor
open Go.RowKit Go.Maps

/-- w' is w but for the blocks of S and new ones. -/
structure Chg (w w' : World) (S : Nat → Prop) : Prop where
  os : w'.os = w.os
  tape : w'.tape = w.tape
  output : w'.output = w.output
  size : w.heap.size ≤ w'.heap.size
  block : ∀ k, k < w.heap.size → ¬ S k → w'.heap[k]? = w.heap[k]?

theorem Chg.trans {w w1 w2 : World} {S : Nat → Prop} (h : Chg w w1 S) (k : Chg w1 w2 S) : Chg w w2 S :=
  ⟨k.os.trans h.os, k.tape.trans h.tape, k.output.trans h.output, Nat.le_trans h.size k.size, fun i hi hs => (k.block i (Nat.lt_of_lt_of_le hi h.size) hs).trans (h.block i hi hs)⟩
theorem Chg.mono {w w' : World} {S S' : Nat → Prop} (h : Chg w w' S) (hs : ∀ k, k < w.heap.size → S k → S' k) : Chg w w' S' :=
  ⟨h.os, h.tape, h.output, h.size, fun k hk hn => h.block k hk (fun h' => hn (hs k hk h'))⟩
theorem Chg.refl (w : World) (S : Nat → Prop) : Chg w w S := ⟨rfl, rfl, rfl, Nat.le_refl _, fun _ _ _ => rfl⟩
theorem Chg.grown {w w' : World} {row : Option Nat} (h : w.grownBy w' row) : Chg w w' (fun k => row = some k) :=
  ⟨h.os, h.tape, h.output, h.size, fun k hk hn => h.block k hk (fun e => hn e.symm)⟩
theorem Chg.alloc (w : World) (o : Obj) (S : Nat → Prop) : Chg w (w.alloc o) S := (Chg.grown (World.grownBy_alloc w o none)).mono (fun _ _ h => by cases h)
theorem Chg.set (w : World) (a : Addr) (v : Value) : Chg w (w.setCell a v) (fun k => k = a.block) :=
  ⟨rfl, rfl, rfl, by simp, fun k _ hn => Below.heap_setCell w a v k hn⟩
theorem Chg.of_below {w w' : World} (h : Below w.heap.size w w') (S : Nat → Prop) : Chg w w' S := ⟨h.os, h.tape, h.output, h.size, fun k hk _ => h.block k hk⟩
theorem Chg.below {w w' : World} {S : Nat → Prop} {B : Nat} (h : Chg w w' S) (hB : B ≤ w.heap.size) (hs : ∀ k, k < w.heap.size → S k → B ≤ k) : Below B w w' :=
  ⟨h.os, h.tape, h.output, h.size, fun k hk => h.block k (Nat.lt_of_lt_of_le hk hB) (fun h' => by have := hs k (Nat.lt_of_lt_of_le hk hB) h'; omega)⟩

theorem bcell {W w1 : World} (hb : Below W.heap.size W w1) : (∀ b o, b < W.heap.size → w1.cell? ⟨b, o, none⟩ = W.cell? ⟨b, o, none⟩) ∧ (∀ b o, b < W.heap.size → w1.frozen? ⟨b, o, none⟩ = W.frozen? ⟨b, o, none⟩) :=
  ⟨fun b o h => hb.cell (p := ⟨b, o, none⟩) h, fun b o h => hb.frozen (p := ⟨b, o, none⟩) h⟩

theorem kept_block {W w1 : World} {b : Nat} {o : Obj} (hb : Below W.heap.size W w1) (h : W.heap[b]? = some o) : w1.heap[b]? = some o := by
  rw [hb.block b (Array.getElem?_eq_some_iff.1 h).1]; exact h
theorem cells_1 {W : World} {b : Nat} {t : TypeId} {x0 : Value} (h : W.heap[b]? = some (.cells #[x0] t (0, 0))) : W.cell? ⟨b, 0, none⟩ = some x0 := by
  simp [World.cell?, h]
theorem free_1 {W : World} {b : Nat} {t : TypeId} {x0 : Value} (h : W.heap[b]? = some (.cells #[x0] t (0, 0))) (o : Nat) : W.frozen? ⟨b, o, none⟩ = false := by
  simp [World.frozen?, h]
theorem cells_2 {W : World} {b : Nat} {t : TypeId} {x0 x1 : Value} (h : W.heap[b]? = some (.cells #[x0, x1] t (0, 0))) : W.cell? ⟨b, 0, none⟩ = some x0 ∧ W.cell? ⟨b, 1, none⟩ = some x1 := by
  simp [World.cell?, h]
theorem free_2 {W : World} {b : Nat} {t : TypeId} {x0 x1 : Value} (h : W.heap[b]? = some (.cells #[x0, x1] t (0, 0))) (o : Nat) : W.frozen? ⟨b, o, none⟩ = false := by
  simp [World.frozen?, h]
theorem cells_4 {W : World} {b : Nat} {t : TypeId} {x0 x1 x2 x3 : Value} (h : W.heap[b]? = some (.cells #[x0, x1, x2, x3] t (0, 0))) : W.cell? ⟨b, 0, none⟩ = some x0 ∧ W.cell? ⟨b, 1, none⟩ = some x1 ∧ W.cell? ⟨b, 2, none⟩ = some x2 ∧ W.cell? ⟨b, 3, none⟩ = some x3 := by
  simp [World.cell?, h]
theorem free_4 {W : World} {b : Nat} {t : TypeId} {x0 x1 x2 x3 : Value} (h : W.heap[b]? = some (.cells #[x0, x1, x2, x3] t (0, 0))) (o : Nat) : W.frozen? ⟨b, o, none⟩ = false := by
  simp [World.frozen?, h]
theorem cells_5 {W : World} {b : Nat} {t : TypeId} {x0 x1 x2 x3 x4 : Value} (h : W.heap[b]? = some (.cells #[x0, x1, x2, x3, x4] t (0, 0))) : W.cell? ⟨b, 0, none⟩ = some x0 ∧ W.cell? ⟨b, 1, none⟩ = some x1 ∧ W.cell? ⟨b, 2, none⟩ = some x2 ∧ W.cell? ⟨b, 3, none⟩ = some x3 ∧ W.cell? ⟨b, 4, none⟩ = some x4 := by
  simp [World.cell?, h]
theorem free_5 {W : World} {b : Nat} {t : TypeId} {x0 x1 x2 x3 x4 : Value} (h : W.heap[b]? = some (.cells #[x0, x1, x2, x3, x4] t (0, 0))) (o : Nat) : W.frozen? ⟨b, o, none⟩ = false := by
  simp [World.frozen?, h]
theorem cells_6 {W : World} {b : Nat} {t : TypeId} {x0 x1 x2 x3 x4 x5 : Value} (h : W.heap[b]? = some (.cells #[x0, x1, x2, x3, x4, x5] t (0, 0))) : W.cell? ⟨b, 0, none⟩ = some x0 ∧ W.cell? ⟨b, 1, none⟩ = some x1 ∧ W.cell? ⟨b, 2, none⟩ = some x2 ∧ W.cell? ⟨b, 3, none⟩ = some x3 ∧ W.cell? ⟨b, 4, none⟩ = some x4 ∧ W.cell? ⟨b, 5, none⟩ = some x5 := by
  simp [World.cell?, h]
theorem free_6 {W : World} {b : Nat} {t : TypeId} {x0 x1 x2 x3 x4 x5 : Value} (h : W.heap[b]? = some (.cells #[x0, x1, x2, x3, x4, x5] t (0, 0))) (o : Nat) : W.frozen? ⟨b, o, none⟩ = false := by
  simp [World.frozen?, h]
theorem cells_7 {W : World} {b : Nat} {t : TypeId} {x0 x1 x2 x3 x4 x5 x6 : Value} (h : W.heap[b]? = some (.cells #[x0, x1, x2, x3, x4, x5, x6] t (0, 0))) : W.cell? ⟨b, 0, none⟩ = some x0 ∧ W.cell? ⟨b, 1, none⟩ = some x1 ∧ W.cell? ⟨b, 2, none⟩ = some x2 ∧ W.cell? ⟨b, 3, none⟩ = some x3 ∧ W.cell? ⟨b, 4, none⟩ = some x4 ∧ W.cell? ⟨b, 5, none⟩ = some x5 ∧ W.cell? ⟨b, 6, none⟩ = some x6 := by
  simp [World.cell?, h]
theorem free_7 {W : World} {b : Nat} {t : TypeId} {x0 x1 x2 x3 x4 x5 x6 : Value} (h : W.heap[b]? = some (.cells #[x0, x1, x2, x3, x4, x5, x6] t (0, 0))) (o : Nat) : W.frozen? ⟨b, o, none⟩ = false := by
  simp [World.frozen?, h]

/-- An element as it stands. -/
def raw (v : Value) : Option (DataW Value × List MemPlace) := some (.held v, [])
theorem raw_inv {v u : Value} {ps : List MemPlace} (h : raw v = some (.held u, ps)) : v = u := by
  simp only [raw, Option.some.injEq, Prod.mk.injEq, DataW.held.injEq] at h
  exact h.1
/-- Block b is a map of nodes that reads as D. -/
abbrev MapAt (w : World) (b n : Nat) (D : DataW Value) : Prop := w.ownsMap Tryz.prog 9 raw b n D
theorem keyed : Keyed Tryz.prog 9 := string_keyed Tryz.underlying9
abbrev ky (s : ByteArray) : Lit := .string s.data.toList
/-- A node as a value. -/
abbrev fuV (p d : ByteArray) (v m c o k : Int) : Value := .agg #[.string p, .string d, .int .i64 v, .int .i64 m, .int .i64 c, .int .i64 o, .int .i64 k]
abbrev zf : Value := fuV ByteArray.empty ByteArray.empty 0 0 0 0 0
theorem zeroF (w : World) : (zeroValue 54).run Tryz.prog w = .ok zf w := by kernel_rfl

theorem map_chg {w w' : World} {b n : Nat} {D : DataW Value} {S : Nat → Prop} (h : MapAt w b n D) (hc : Chg w w' S) (hs : ¬ S b) : MapAt w' b n D := by
  have hl := h.lt
  obtain ⟨es, clock, hb, r⟩ := h
  exact ⟨es, clock, by rw [hc.block b hl hs]; exact hb, r⟩
theorem map_below {w w' : World} {b n : Nat} {D : DataW Value} (h : MapAt w b n D) (hc : Below w.heap.size w w') : MapAt w' b n D := map_chg h (Chg.of_below hc (fun _ => False)) id

/-- The table of what ops need. -/
def needsTab : List (List Bool) := [[false, false, false, false, false, false], [true, true, true, false, false, false], [false, false, true, true, false, true], [false, true, false, true, true, false], [false, false, false, true, false, false], [false, false, false, false, false, false], [false, false, false, false, false, false], [false, false, false, false, false, false]]
structure GroundT (w : World) : Prop extends Ground w where
  need : ∀ i j b, (needsTab.flatten)[6 * i + j]? = some b → w.cell? ⟨0, 6 * i + j, none⟩ = some (.bool b)
  needLt : 0 < w.heap.size
theorem GroundT.below {w w' : World} (h : GroundT w) (hb : Below w.heap.size w w') : GroundT w' :=
  { h.toGround.below hb with
    need := fun i j b hx => by rw [hb.cell (p := ⟨0, 6 * i + j, none⟩) h.needLt]; exact h.need i j b hx
    needLt := Nat.lt_of_lt_of_le h.needLt hb.size }
end Go.Proofs.YtliafokjdngejaaGreatDoor
