/-
  What a row's list gives the walks over Itoa.
-/
import Derived.Test.YthelfbdkbldhjaaGreatDoorParse
import Derived.Test.YthelfbdkbldhjaaGreatDoorCounted
import Derived.Maps.OwnSet
import Derived.Maps.Ext
import Derived.WalkMore
import Derived.OneCell
import Derived.ProofKit
import Derived.ChangeSlices
import Derived.OpenShut
import Derived.ChangeOld
import Derived.SizedLaws
import Derived.Deep.Slices
import Derived.Deep.Strs
namespace Go.Proofs.YthelfbdkbldhjaaGreatDoor
open Go.RowKit

theorem gPowType : (Tryz.prog.globals[5]?).map (·.type) = some 226 := by kernel_rfl
theorem cellsPow : Tryz.prog.cellsOf 226 = 20 := by kernel_rfl
theorem cellsPowE : Tryz.prog.cellsOf (Tryz.prog.elem 226) = 1 := by kernel_rfl
theorem underPowE : Tryz.prog.underlying (Tryz.prog.elem 226) = some (.int .u64) := by kernel_rfl
theorem underPow : Tryz.prog.underlying 226 = some (.array 20 (Tryz.prog.elem 226)) := by kernel_rfl
theorem datumPow : (Rows.laid_internal_strconv_uint64pow10 : DataW Unit) = Lib.tabData .u64 Lib.pow10Tab := by kernel_rfl

theorem groundC_of {W : World} {l : List (String × DataW Unit)} (hf : (l.filter fun x => x.1 == "herald/place.nameBytes") = [("herald/place.nameBytes", Rows.laid_herald_place_nameBytes)])
    (hf2 : (l.filter fun x => x.1 == "internal/strconv.uint64pow10") = [("internal/strconv.uint64pow10", Rows.laid_internal_strconv_uint64pow10)])
    (hL : laidMetH Tryz.prog l W) (hS : W.ShapedOpen Tryz.prog) : GroundC W where
  toGround := ground_of hf hL hS
  pow := by
    have h1 := hL.filter (fun x => x.1 == "internal/strconv.uint64pow10")
    rw [hf2, Go.MakeChecks.laidMetH_plain _ _ _ (by kernel_rfl), datumPow] at h1
    exact Lib.tabIs_of_head (rest := []) gPow gPowType underPow underPowE cellsPowE cellsPow h1
end Go.Proofs.YthelfbdkbldhjaaGreatDoor
namespace Go.Proofs.YthelfbdkbldhjaaGreatDoor
open Go.RowKit

theorem parent_err {s : ByteArray} {code : Int} (h : parse s = (code, [])) (hc : code ≠ 0) (w : World) (hg : Ground w) :
    Calls Tryz.prog 104 #[.string s] w fun e w' => e = .returned (.tuple #[.string ⟨#[]⟩, .int .i64 code]) ∧ Below w.heap.size w w' := by
  have HP : Hid _ := belowRoot_err h hc
  have hc' : (code != 0) = true := by simpa using hc
  have HG : Hid (Ground w) := hg
  clear hg h
  go_enter Tryz.func104, Tryz.ntmps104
  go_wp2_with (first | (go_at_call 108; refine (HP.out _ HG.out).mono ?_; rintro e w1 ⟨rfl, hb⟩; have HB : Hid _ := hb; clear hb))
  go_ret2
  exact ⟨rfl, HB.out⟩
theorem parent_root {s : ByteArray} (h : parse s = (0, [])) (w : World) (hg : Ground w) :
    Calls Tryz.prog 104 #[.string s] w fun e w' => e = .returned (.tuple #[.string ⟨#[]⟩, .int .i64 47]) ∧ Below w.heap.size w w' := by
  have HP : Hid _ := belowRoot_root h
  have HG : Hid (Ground w) := hg
  clear hg h
  go_enter Tryz.func104, Tryz.ntmps104
  go_wp2_with (first | (go_at_call 108; refine (HP.out _ HG.out).mono ?_; rintro e w1 ⟨rfl, hb⟩; have HB : Hid _ := hb; clear hb))
  go_ret2
  exact ⟨rfl, HB.out⟩

theorem lst_take {w : World} {b : Nat} {xs : List ByteArray} (h : w.heap[b]? = some (.cells (xs.map Value.string).toArray 9 (0, 0))) (k : Nat) : Lst w (some ⟨b, 0, none⟩) (xs.take k) := by
  refine .inr ⟨b, 0, rfl, lt_of_block' h, fun j x hx => strs_of_block h j x ?_⟩
  rw [List.getElem?_take] at hx
  split at hx
  · exact hx
  · cases hx
theorem all_take {xs : List ByteArray} (h : xs.all isNm = true) (k : Nat) : (xs.take k).all isNm = true := by
  rw [List.all_eq_true] at h ⊢
  exact fun x hx => h x (List.mem_of_mem_take hx)

theorem parent_some {s : ByteArray} {xs : List ByteArray} (h : parse s = (0, xs)) (k : Nat) (hk : xs.length = k + 1) (w : World) (hg : Ground w) :
    Calls Tryz.prog 104 #[.string s] w fun e w' => e = .returned (.tuple #[.string (placeB (xs.take k)), .int .i64 0]) ∧ Below w.heap.size w w' := by
  have hl := parse_len h
  have HP : Hid _ := belowRoot_some h (fun e => by rw [e] at hk; simp at hk)
  have HG : Hid (Ground w) := hg
  have htl : (xs.take k).length = k := by rw [List.length_take]; omega
  have hk6 : k ≤ 5 := by omega
  have HN : Hid (xs.all isNm = true) := hl.2
  have HT : Hid ((xs.take k).length = k) := htl
  obtain ⟨pb, hpb⟩ : ∃ pb, placeB (xs.take k) = pb := ⟨_, rfl⟩
  rw [hpb]
  have HPB : Hid (placeB (xs.take k) = pb) := hpb
  clear hg h hl htl hpb
  go_enter Tryz.func104, Tryz.ntmps104
  go_wp2_with fail
  refine (HP.out _ HG.out).mono ?_
  rintro e w1 ⟨b, rfl, _, hblk, hb⟩
  have HB : Hid _ := hb
  have HO : Hid (∀ c, k ≤ c → Calls Tryz.prog 127 #[.slice (some ⟨b, 0, none⟩) k c] w1 fun e w' => e = .returned (.string pb) ∧ Below w1.heap.size w1 w') := fun c hc => by
    have := placeOf_any (some ⟨b, 0, none⟩) c (xs.take k) w1 (lst_take hblk k) (by rw [HT.out]; exact hc) (by rw [HT.out]; omega) (all_take HN.out k)
    rw [HT.out, HPB.out] at this
    exact this
  clear hb hblk
  go_wp2_with (first | (go_at_call 127; refine (HO.out _ (by omega)).mono ?_; rintro e w2 ⟨rfl, hb2⟩; have HB2 : Hid _ := hb2; clear hb2))
  go_ret2
  exact ⟨rfl, HB.out.trans (HB2.out.mono HB.out.size)⟩

end Go.Proofs.YthelfbdkbldhjaaGreatDoor
namespace Go.Proofs.YthelfbdkbldhjaaGreatDoor
open Go.RowKit

theorem name_err {s : ByteArray} {code : Int} (h : parse s = (code, [])) (w : World) (hg : Ground w) :
    Calls Tryz.prog 85 #[.string s] w fun e w' => e = .returned (.tuple #[.string ⟨#[]⟩, .int .i64 code]) ∧ Below w.heap.size w w' := by
  have HP : Hid _ := parse_none h
  have HG : Hid (Ground w) := hg
  clear hg h
  by_cases hc : code = 0
  · subst hc
    go_enter Tryz.func85, Tryz.ntmps85
    go_wp2_with (first | (go_at_call 44; refine (HP.out _ HG.out).mono ?_; rintro e w1 ⟨rfl, hb⟩; have HB : Hid _ := hb; clear hb))
    go_ret2
    exact ⟨rfl, HB.out⟩
  · have hc' : (code != 0) = true := by simpa using hc
    go_enter Tryz.func85, Tryz.ntmps85
    go_wp2_with (first | (go_at_call 44; refine (HP.out _ HG.out).mono ?_; rintro e w1 ⟨rfl, hb⟩; have HB : Hid _ := hb; clear hb))
    go_ret2
    exact ⟨rfl, HB.out⟩
theorem name_some {s : ByteArray} {xs : List ByteArray} (h : parse s = (0, xs)) (k : Nat) (hk : xs.length = k + 1) (x : ByteArray) (hx : xs[k]? = some x) (w : World) (hg : Ground w) :
    Calls Tryz.prog 85 #[.string s] w fun e w' => e = .returned (.tuple #[.string x, .int .i64 0]) ∧ Below w.heap.size w w' := by
  have hl := parse_len h
  have HP : Hid _ := parse_some h (fun e => by rw [e] at hk; simp at hk)
  have HG : Hid (Ground w) := hg
  have HX : Hid _ := hx
  have hk6 : k ≤ 5 := by omega
  have hk0 : ((k : Int) + 1 == 0) = false := by simp; omega
  clear hg h hl hx
  go_enter Tryz.func85, Tryz.ntmps85
  go_wp2_with (first | (go_at_call 44; refine (HP.out _ HG.out).mono ?_; rintro e w1 ⟨b, rfl, _, hblk, hb⟩; have hcell := cell_of_block hblk HX.out; have HB : Hid _ := hb; clear hb hblk))
  go_ret2
  exact ⟨rfl, HB.out⟩
end Go.Proofs.YthelfbdkbldhjaaGreatDoor
namespace Go.Proofs.YthelfbdkbldhjaaGreatDoor
open Go.RowKit Go.Maps

/-- w' is w but for the blocks of S and new ones. -/
structure Chg (w w' : World) (S : Nat → Prop) : Prop where
  os : w'.os = w.os
  tape : w'.tape = w.tape
  output : w'.output = w.output
  size : w.heap.size ≤ w'.heap.size
  block : ∀ k, k < w.heap.size → ¬ S k → w'.heap[k]? = w.heap[k]?

theorem Chg.trans {w w1 w2 : World} {S : Nat → Prop} (h : Chg w w1 S) (k : Chg w1 w2 S) : Chg w w2 S :=
  ⟨k.os.trans h.os, k.tape.trans h.tape, k.output.trans h.output, Nat.le_trans h.size k.size, fun i hi hs => (k.block i (Nat.lt_of_lt_of_le hi h.size) hs).trans (h.block i hi hs)⟩
theorem Chg.mono {w w' : World} {S S' : Nat → Prop} (h : Chg w w' S) (hs : ∀ k, k < w.heap.size → S k → S' k) : Chg w w' S' :=
  ⟨h.os, h.tape, h.output, h.size, fun k hk hn => h.block k hk (fun h' => hn (hs k hk h'))⟩
theorem Chg.refl (w : World) (S : Nat → Prop) : Chg w w S := ⟨rfl, rfl, rfl, Nat.le_refl _, fun _ _ _ => rfl⟩
theorem Chg.grown {w w' : World} {row : Option Nat} (h : w.grownBy w' row) : Chg w w' (fun k => row = some k) :=
  ⟨h.os, h.tape, h.output, h.size, fun k hk hn => h.block k hk (fun e => hn e.symm)⟩
theorem Chg.alloc (w : World) (o : Obj) (S : Nat → Prop) : Chg w (w.alloc o) S := (Chg.grown (World.grownBy_alloc w o none)).mono (fun _ _ h => by cases h)
theorem Chg.set (w : World) (a : Addr) (v : Value) : Chg w (w.setCell a v) (fun k => k = a.block) :=
  ⟨rfl, rfl, rfl, by simp, fun k _ hn => Below.heap_setCell w a v k hn⟩
theorem Chg.of_below {w w' : World} (h : Below w.heap.size w w') (S : Nat → Prop) : Chg w w' S := ⟨h.os, h.tape, h.output, h.size, fun k hk _ => h.block k hk⟩
theorem Chg.below {w w' : World} {S : Nat → Prop} {B : Nat} (h : Chg w w' S) (hB : B ≤ w.heap.size) (hs : ∀ k, k < w.heap.size → S k → B ≤ k) : Below B w w' :=
  ⟨h.os, h.tape, h.output, h.size, fun k hk => h.block k (Nat.lt_of_lt_of_le hk hB) (fun h' => by have := hs k (Nat.lt_of_lt_of_le hk hB) h'; omega)⟩

theorem kept_block {W w1 : World} {b : Nat} {o : Obj} (hb : Below W.heap.size W w1) (h : W.heap[b]? = some o) : w1.heap[b]? = some o := by
  rw [hb.block b (Array.getElem?_eq_some_iff.1 h).1]; exact h
theorem cells_1 {W : World} {b : Nat} {t : TypeId} {x0 : Value} (h : W.heap[b]? = some (.cells #[x0] t (0, 0))) : W.cell? ⟨b, 0, none⟩ = some x0 := by
  simp [World.cell?, h]
theorem free_1 {W : World} {b : Nat} {t : TypeId} {x0 : Value} (h : W.heap[b]? = some (.cells #[x0] t (0, 0))) (o : Nat) : W.frozen? ⟨b, o, none⟩ = false := by
  simp [World.frozen?, h]
theorem cells_4 {W : World} {b : Nat} {t : TypeId} {x0 x1 x2 x3 : Value} (h : W.heap[b]? = some (.cells #[x0, x1, x2, x3] t (0, 0))) : W.cell? ⟨b, 0, none⟩ = some x0 ∧ W.cell? ⟨b, 1, none⟩ = some x1 ∧ W.cell? ⟨b, 2, none⟩ = some x2 ∧ W.cell? ⟨b, 3, none⟩ = some x3 := by
  simp [World.cell?, h]
theorem free_4 {W : World} {b : Nat} {t : TypeId} {x0 x1 x2 x3 : Value} (h : W.heap[b]? = some (.cells #[x0, x1, x2, x3] t (0, 0))) (o : Nat) : W.frozen? ⟨b, o, none⟩ = false := by
  simp [World.frozen?, h]
theorem cells_5 {W : World} {b : Nat} {t : TypeId} {x0 x1 x2 x3 x4 : Value} (h : W.heap[b]? = some (.cells #[x0, x1, x2, x3, x4] t (0, 0))) : W.cell? ⟨b, 0, none⟩ = some x0 ∧ W.cell? ⟨b, 1, none⟩ = some x1 ∧ W.cell? ⟨b, 2, none⟩ = some x2 ∧ W.cell? ⟨b, 3, none⟩ = some x3 ∧ W.cell? ⟨b, 4, none⟩ = some x4 := by
  simp [World.cell?, h]
theorem cells_6 {W : World} {b : Nat} {t : TypeId} {x0 x1 x2 x3 x4 x5 : Value} (h : W.heap[b]? = some (.cells #[x0, x1, x2, x3, x4, x5] t (0, 0))) : W.cell? ⟨b, 0, none⟩ = some x0 ∧ W.cell? ⟨b, 1, none⟩ = some x1 ∧ W.cell? ⟨b, 2, none⟩ = some x2 ∧ W.cell? ⟨b, 3, none⟩ = some x3 ∧ W.cell? ⟨b, 4, none⟩ = some x4 ∧ W.cell? ⟨b, 5, none⟩ = some x5 := by
  simp [World.cell?, h]
theorem cells_7 {W : World} {b : Nat} {t : TypeId} {x0 x1 x2 x3 x4 x5 x6 : Value} (h : W.heap[b]? = some (.cells #[x0, x1, x2, x3, x4, x5, x6] t (0, 0))) : W.cell? ⟨b, 0, none⟩ = some x0 ∧ W.cell? ⟨b, 1, none⟩ = some x1 ∧ W.cell? ⟨b, 2, none⟩ = some x2 ∧ W.cell? ⟨b, 3, none⟩ = some x3 ∧ W.cell? ⟨b, 4, none⟩ = some x4 ∧ W.cell? ⟨b, 5, none⟩ = some x5 ∧ W.cell? ⟨b, 6, none⟩ = some x6 := by
  simp [World.cell?, h]
theorem free_7 {W : World} {b : Nat} {t : TypeId} {x0 x1 x2 x3 x4 x5 x6 : Value} (h : W.heap[b]? = some (.cells #[x0, x1, x2, x3, x4, x5, x6] t (0, 0))) (o : Nat) : W.frozen? ⟨b, o, none⟩ = false := by
  simp [World.frozen?, h]

/-- An element as it stands. -/
def raw (v : Value) : Option (DataW Value × List MemPlace) := some (.held v, [])
/-- Block b is a map of nodes that reads as D. -/
abbrev MapAt (w : World) (b n : Nat) (D : DataW Value) : Prop := w.ownsMap Tryz.prog 9 raw b n D
theorem keyed : Keyed Tryz.prog 9 := string_keyed Tryz.underlying9
abbrev ky (s : ByteArray) : Lit := .string s.data.toList
/-- A node as a value. -/
abbrev fuV (p d : ByteArray) (v m c o k : Int) : Value := .agg #[.string p, .string d, .int .i64 v, .int .i64 m, .int .i64 c, .int .i64 o, .int .i64 k]
abbrev zf : Value := fuV ByteArray.empty ByteArray.empty 0 0 0 0 0
theorem zeroF (w : World) : (zeroValue 45).run Tryz.prog w = .ok zf w := by kernel_rfl

theorem map_chg {w w' : World} {b n : Nat} {D : DataW Value} {S : Nat → Prop} (h : MapAt w b n D) (hc : Chg w w' S) (hs : ¬ S b) : MapAt w' b n D := by
  have hl := h.lt
  obtain ⟨es, clock, hb, r⟩ := h
  exact ⟨es, clock, by rw [hc.block b hl hs]; exact hb, r⟩
theorem map_below {w w' : World} {b n : Nat} {D : DataW Value} (h : MapAt w b n D) (hc : Below w.heap.size w w') : MapAt w' b n D := map_chg h (Chg.of_below hc (fun _ => False)) id

/-- The table of what ops need. -/
def needsTab : List (List Bool) := [[false, false, false, false, false, false], [true, true, true, false, false, false], [false, false, true, true, false, true], [false, true, false, true, true, false], [false, false, false, true, false, false], [false, false, false, false, false, false], [false, false, false, false, false, false], [false, false, false, false, false, false]]
structure GroundT (w : World) : Prop extends Ground w where
  need : ∀ i j b, (needsTab.flatten)[6 * i + j]? = some b → w.cell? ⟨0, 6 * i + j, none⟩ = some (.bool b)
  needLt : 0 < w.heap.size
theorem GroundT.below {w w' : World} (h : GroundT w) (hb : Below w.heap.size w w') : GroundT w' :=
  { h.toGround.below hb with
    need := fun i j b hx => by rw [hb.cell (p := ⟨0, 6 * i + j, none⟩) h.needLt]; exact h.need i j b hx
    needLt := Nat.lt_of_lt_of_le h.needLt hb.size }
end Go.Proofs.YthelfbdkbldhjaaGreatDoor
namespace Go.Proofs.YthelfbdkbldhjaaGreatDoor
open Go.RowKit Go.ChangeShapes Go.WideShapes Go.ChangeAt

theorem list5 {α : Type} {l : List α} (h : l.length = 5) : ∃ a b c d e, l = [a, b, c, d, e] := by
  match l, h with
  | [a, b, c, d, e], _ => exact ⟨a, b, c, d, e, rfl⟩
theorem list6 {α : Type} {l : List α} (h : l.length = 6) : ∃ a b c d e f, l = [a, b, c, d, e, f] := by
  match l, h with
  | [a, b, c, d, e, f], _ => exact ⟨a, b, c, d, e, f, rfl⟩
theorem cellsNeed : Tryz.prog.cellsOf 125 = 6 := by kernel_rfl
theorem cellsNeeds : Tryz.prog.cellsOf 126 = 48 := by kernel_rfl
theorem gNeeds : Tryz.prog.globalNamed "herald/tree.needs" = some 0 := by kernel_rfl
theorem gNeedsType : (Tryz.prog.globals[0]?).map (·.type) = some 126 := by kernel_rfl
theorem datumNeeds : (Rows.laid_herald_tree_needs : DataW Unit) = .agg (needsTab.map fun r => .agg (r.map fun z => .lit (.bool z))) := by kernel_rfl
theorem cells4' : Tryz.prog.cellsOf 4 = 1 := by kernel_rfl
theorem cells3' : Tryz.prog.cellsOf 3 = 1 := by kernel_rfl
theorem cells9' : Tryz.prog.cellsOf 9 = 1 := by kernel_rfl
theorem cellsOps : Tryz.prog.cellsOf 30 = 1 := by kernel_rfl

theorem need_row {H : Type} {enc : TypeId × Value → H} {w : World} {base : Nat} {sp : Nat → Bool} {held : Bool} {fuel : Nat} {cs : List Value} {r : List Bool} {p : List MemPlace} (hr : r.length = 6)
    (h : DataW.trod enc Tryz.prog w base sp held fuel 125 cs = some (.agg (r.map fun z => .lit (.bool z)), p)) : cs = r.map Value.bool := by
  obtain ⟨xs, n, _, hx, hl, hxl, hf⟩ := DataW.trod_struct Tryz.underlying125 h
  rw [cellsNeed] at hl
  obtain ⟨c0, c1, c2, c3, c4, c5, rfl⟩ := list6 hl
  obtain ⟨b0, b1, b2, b3, b4, b5, rfl⟩ := list6 hr
  obtain ⟨x0, x1, x2, x3, x4, x5, rfl⟩ := list6 (l := xs) hxl
  simp only [List.map_cons, List.map_nil, Prod.mk.injEq, DataW.agg.injEq, List.cons.injEq, and_true] at hx
  obtain ⟨⟨e0, e1, e2, e3, e4, e5⟩, _⟩ := hx
  have g0 := hf 0 _ rfl
  have g1 := hf 1 _ rfl
  have g2 := hf 2 _ rfl
  have g3 := hf 3 _ rfl
  have g4 := hf 4 _ rfl
  have g5 := hf 5 _ rfl
  obtain ⟨z0, q0, k0⟩ := DataW.trod_bool Tryz.underlying4 g0
  obtain ⟨z1, q1, k1⟩ := DataW.trod_bool Tryz.underlying4 g1
  obtain ⟨z2, q2, k2⟩ := DataW.trod_bool Tryz.underlying4 g2
  obtain ⟨z3, q3, k3⟩ := DataW.trod_bool Tryz.underlying4 g3
  obtain ⟨z4, q4, k4⟩ := DataW.trod_bool Tryz.underlying4 g4
  obtain ⟨z5, q5, k5⟩ := DataW.trod_bool Tryz.underlying4 g5
  simp [cells4'] at q0 q1 q2 q3 q4 q5
  subst q0 q1 q2 q3 q4 q5 k0 k1 k2 k3 k4 k5
  simp only [DataW.lit.injEq, Lit.bool.injEq] at e0 e1 e2 e3 e4 e5
  subst e0 e1 e2 e3 e4 e5
  rfl
theorem needs_flat : ∀ k, k < 48 → (needsTab.flatten)[k]? = (needsTab[k / 6]?).bind (·[k % 6]?) := by decide
theorem needs_six : ∀ r ∈ needsTab, r.length = 6 := by decide
theorem needs_cells {H : Type} {enc : TypeId × Value → H} {w : World} {base : Nat} {sp : Nat → Bool} {held : Bool} {fuel : Nat} {cs : List Value} {p : List MemPlace}
    (h : DataW.trod enc Tryz.prog w base sp held fuel 126 cs = some (.agg (needsTab.map fun r => .agg (r.map fun z => .lit (.bool z))), p)) : ∀ (k : Nat) (b : Bool), (needsTab.flatten)[k]? = some b → cs[k]? = some (Value.bool b) := by
  intro k b hk
  have hk48 : k < 48 := (List.getElem?_eq_some_iff.1 hk).1
  rw [needs_flat k hk48] at hk
  obtain ⟨r, hr, hb⟩ := Option.bind_eq_some_iff.1 hk
  cases fuel with
  | zero => simp [DataW.trod] at h
  | succ fuel =>
    simp only [DataW.trod, Tryz.underlying126, cellsNeed, cellsNeeds] at h
    split at h
    · rename_i hl
      obtain ⟨xs, hm, hx⟩ := Option.map_eq_some_iff.1 h
      have hxs : xs.map (·.1) = needsTab.map fun r => (DataW.agg (r.map fun z => .lit (.bool z)) : DataW H) := by
        have := congrArg Prod.fst hx
        simpa using this
      obtain ⟨y, hy, hf⟩ := Lib.mapM_at hm (k / 6) (k / 6) (List.getElem?_range (by omega))
      have h2 : (xs.map (·.1))[k / 6]? = some y.1 := by simp [hy]
      rw [hxs, List.getElem?_map, hr] at h2
      obtain ⟨y1, y2⟩ := y
      simp only [Option.map_some, Option.some.injEq] at h2
      subst h2
      have hrow := need_row (needs_six r (List.mem_of_getElem? hr)) hf
      have := congrArg (·[k % 6]?) hrow
      simp only [List.getElem?_map, hb, Option.map_some, List.getElem?_take, List.getElem?_drop] at this
      rw [if_pos (by omega), show k / 6 * 6 + k % 6 = k by omega] at this
      exact this
    · cases h
theorem groundT_of {W : World} {l : List (String × DataW Unit)} (hf : (l.filter fun x => x.1 == "herald/place.nameBytes") = [("herald/place.nameBytes", Rows.laid_herald_place_nameBytes)])
    (hf2 : (l.filter fun x => x.1 == "herald/tree.needs") = [("herald/tree.needs", Rows.laid_herald_tree_needs)]) (hL : laidMetH Tryz.prog l W) (hS : W.ShapedOpen Tryz.prog) : GroundT W := by
  have h1 := hL.filter (fun x => x.1 == "herald/tree.needs")
  rw [hf2, Go.MakeChecks.laidMetH_plain _ _ _ (by kernel_rfl)] at h1
  obtain ⟨ps, ⟨g', t', cs, fuel, p, q, hg', ht', hvar, hd, _, _⟩, _⟩ := h1
  obtain rfl := Option.some.inj (gNeeds.symm.trans hg')
  obtain rfl := Option.some.inj (gNeedsType.symm.trans ht')
  rw [datumNeeds] at hd
  have hcs := needs_cells hd
  have hcell : ∀ (k : Nat) (b : Bool), (needsTab.flatten)[k]? = some b → W.cell? ⟨0, k, none⟩ = some (Value.bool b) := fun k b hk => by
    rw [World.var?_cell gNeeds hvar k, ← Array.getElem?_toList]
    exact hcs k b hk
  exact { ground_of hf hL hS with need := fun i j b hb => hcell _ b hb, needLt := World.block_lt_of_cell? _ _ (hcell 0 false rfl) }
end Go.Proofs.YthelfbdkbldhjaaGreatDoor
namespace Go.Proofs.YthelfbdkbldhjaaGreatDoor
open Go.RowKit Go.Maps

abbrev opV (k : Int) (p d : ByteArray) (v f : Int) : Value := .agg #[.int .i64 k, .string p, .string d, .int .i64 v, .int .i64 f]

theorem kinds {k : Int} (h1 : 1 ≤ k) (h7 : k ≤ 7) : k = 1 ∨ k = 2 ∨ k = 3 ∨ k = 4 ∨ k = 5 ∨ k = 6 ∨ k = 7 := by omega

set_option maxHeartbeats 1600000 in
theorem flagsOf_any {k : Int} (h1 : 1 ≤ k) (h7 : k ≤ 7) (p d : ByteArray) (v f : Int) (w : World) (hg : GroundT w) :
    Calls Tryz.prog 107 #[opV k p d v f] w fun e w' => e = .returned (.int .i64 (if k = 1 then f else 0)) ∧ Below w.heap.size w w' := by
  have n1 := hg.need 1 0 true rfl
  have n2 := hg.need 2 0 false rfl
  have n3 := hg.need 3 0 false rfl
  have n4 := hg.need 4 0 false rfl
  have n5 := hg.need 5 0 false rfl
  have n6 := hg.need 6 0 false rfl
  have n7 := hg.need 7 0 false rfl
  simp only [Nat.reduceMul, Nat.reduceAdd] at n1 n2 n3 n4 n5 n6 n7
  have hlt := hg.needLt
  clear hg
  rcases kinds h1 h7 with rfl | rfl | rfl | rfl | rfl | rfl | rfl <;> clear h1 h7
  all_goals
    go_enter Tryz.func107, Tryz.ntmps107
    go_wp2
    go_ret
    exact ⟨rfl, (Below.refl _ _).alloc (Nat.le_refl _) _⟩

theorem flags4 {f : Int} (h0 : 0 ≤ f) (h3 : f ≤ 3) : f = 0 ∨ f = 1 ∨ f = 2 ∨ f = 3 := by omega

set_option maxHeartbeats 1600000 in
theorem isCounted_any {k : Int} (h1 : 1 ≤ k) (h7 : k ≤ 7) (p d : ByteArray) (v f : Int) (hf : k = 1 → 0 ≤ f ∧ f ≤ 3) (w : World) (hg : GroundT w) :
    Calls Tryz.prog 86 #[opV k p d v f] w fun e w' => e = .returned (.bool (decide (k = 1 ∧ 2 ≤ f))) ∧ Below w.heap.size w w' := by
  have HF : Hid (∀ W, GroundT W → Calls Tryz.prog 107 #[opV k p d v f] W fun e w' => e = .returned (.int .i64 (if k = 1 then f else 0)) ∧ Below W.heap.size W w') := fun W h => flagsOf_any h1 h7 p d v f W h
  have HG : Hid _ := hg
  clear hg
  by_cases hk : k = 1
  · obtain ⟨h0, h3⟩ := hf hk
    simp only [if_pos hk] at HF
    rcases flags4 h0 h3 with rfl | rfl | rfl | rfl
    all_goals
      subst hk
      clear h0 h3 hf h1 h7
      go_enter Tryz.func86, Tryz.ntmps86
      go_wp2_with (first | (go_at_call 107; refine (HF.out _ (HG.out.below ((Below.refl _ _).alloc (Nat.le_refl _) _))).mono ?_; rintro e w1 ⟨rfl, hb⟩) | fail)
      go_ret
      exact ⟨(by first | (simp; done) | (simp; decide)), (((Below.refl _ _).alloc (Nat.le_refl _) _).trans (hb.mono (by simp)))⟩
  · simp only [if_neg hk] at HF
    have hd : decide (k = 1 ∧ 2 ≤ f) = false := by simp [hk]
    rw [hd]
    clear hd h1 h7 hf
    go_enter Tryz.func86, Tryz.ntmps86
    go_wp2_with (first | (go_at_call 107; refine (HF.out _ (HG.out.below ((Below.refl _ _).alloc (Nat.le_refl _) _))).mono ?_; rintro e w1 ⟨rfl, hb⟩) | fail)
    go_ret
    exact ⟨(by first | (simp; done) | (simp; decide)), (((Below.refl _ _).alloc (Nat.le_refl _) _).trans (hb.mono (by simp)))⟩
set_option maxHeartbeats 1600000 in
theorem isBriefOp_any {k : Int} (h1 : 1 ≤ k) (h7 : k ≤ 7) (p d : ByteArray) (v f : Int) (hf : k = 1 → 0 ≤ f ∧ f ≤ 3) (w : World) (hg : GroundT w) :
    Calls Tryz.prog 87 #[opV k p d v f] w fun e w' => e = .returned (.bool (decide (k = 1 ∧ f % 2 = 1))) ∧ Below w.heap.size w w' := by
  have HF : Hid (∀ W, GroundT W → Calls Tryz.prog 107 #[opV k p d v f] W fun e w' => e = .returned (.int .i64 (if k = 1 then f else 0)) ∧ Below W.heap.size W w') := fun W h => flagsOf_any h1 h7 p d v f W h
  have HG : Hid _ := hg
  clear hg
  by_cases hk : k = 1
  · obtain ⟨h0, h3⟩ := hf hk
    simp only [if_pos hk] at HF
    rcases flags4 h0 h3 with rfl | rfl | rfl | rfl
    all_goals
      subst hk
      clear h0 h3 hf h1 h7
      go_enter Tryz.func87, Tryz.ntmps87
      go_wp2_with (first | (go_at_call 107; refine (HF.out _ (HG.out.below ((Below.refl _ _).alloc (Nat.le_refl _) _))).mono ?_; rintro e w1 ⟨rfl, hb⟩) | fail)
      go_ret
      exact ⟨(by first | (simp; done) | (simp; decide)), (((Below.refl _ _).alloc (Nat.le_refl _) _).trans (hb.mono (by simp)))⟩
  · simp only [if_neg hk] at HF
    have hd : decide (k = 1 ∧ f % 2 = 1) = false := by simp [hk]
    rw [hd]
    clear hd h1 h7 hf
    go_enter Tryz.func87, Tryz.ntmps87
    go_wp2_with (first | (go_at_call 107; refine (HF.out _ (HG.out.below ((Below.refl _ _).alloc (Nat.le_refl _) _))).mono ?_; rintro e w1 ⟨rfl, hb⟩) | fail)
    go_ret
    exact ⟨(by first | (simp; done) | (simp; decide)), (((Below.refl _ _).alloc (Nat.le_refl _) _).trans (hb.mono (by simp)))⟩

/-- The last name of a place; none of others. -/
def lastN (p : ByteArray) : ByteArray := ((parse p).2.getLast?).getD ⟨#[]⟩
theorem name_any (p : ByteArray) (w : World) (hg : Ground w) :
    Calls Tryz.prog 85 #[.string p] w fun e w' => e = .returned (.tuple #[.string (lastN p), .int .i64 (parse p).1]) ∧ Below w.heap.size w w' := by
  obtain ⟨code, xs, hp⟩ : ∃ code xs, parse p = (code, xs) := ⟨_, _, rfl⟩
  unfold lastN
  rw [hp]
  rcases List.eq_nil_or_concat xs with rfl | ⟨ys, x, rfl⟩
  · exact name_err hp w hg
  · have hc : code = 0 := Classical.byContradiction fun h => by have := parse_code hp h; simp at this
    subst hc
    simp only [List.concat_eq_append, List.getLast?_append, List.getLast?_singleton, Option.some_or, Option.getD_some]
    exact name_some hp ys.length (by simp) x (by simp) w hg

/-- Why an op is refused whatever nodes there are. -/
def malC (s k : Int) (p d : ByteArray) (f : Int) : Int :=
  if k < 1 ∨ 7 < k then 48 else
  if k = 1 ∧ ¬ (0 ≤ f ∧ f ≤ 3) then 48 else
  if (parse p).1 ≠ 0 ∨ (k = 1 ∧ 2 ≤ f) ∧ 11 < (lastN p).size then 10 else
  if (k = 1 ∨ k = 3) ∧ p = ⟨#[47]⟩ then 47 else
  if (k = 1 ∧ f % 2 = 1) ∧ s = 0 then 44 else
  if (k = 1 ∨ k = 2) ∧ 64 < d.size then 45 else 0
end Go.Proofs.YthelfbdkbldhjaaGreatDoor
