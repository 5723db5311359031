import Derived.Test.YtbblckcjedjbcaaGreatDoorXTrie
import Derived.Test.YtbblckcjedjbcaaGreatDoorXOf
import Derived.Test.YtbblckcjedjbcaaGreatDoorXDropT
import Derived.Test.YtbblckcjedjbcaaGreatDoorXForget
import Derived.Test.YtbblckcjedjbcaaGreatDoorXMatchT
import Derived.Test.YtbblckcjedjbcaaGreatDoorXAt
import Derived.Test.YtbblckcjedjbcaaGreatDoorXWalkL
import Derived.Test.YtbblckcjedjbcaaGreatDoorXBegins
import Derived.Test.YtbblckcjedjbcaaGreatDoorJZero2
import Derived.Test.YtbblckcjedjbcaaGreatDoorJSame
import Derived.Test.YtbblckcjedjbcaaGreatDoorXSameE
namespace Go.Proofs.YtbblckcjedjbcaaGreatDoor.J
open Go.RowKit Go.Maps
set_option linter.unusedVariables false
set_option linter.unusedSimpArgs false

theorem mayL_nil (s i : Int) (p : ByteArray) (k f : Int) : mayL [] true s i p k f ≠ 0 := by
  unfold mayL
  split
  · decide
  split
  · decide
  split
  · decide
  rw [if_pos (.inl rfl)]
  decide
set_option maxHeartbeats 3200000 in
theorem addNil (w : World) (s i : Int) (p : ByteArray) (k f : Int) (hg : Ground w) :
    Calls Tryz.prog 16 #[.pointer none, .int .i64 s, watV i p k f] w fun e w' => e = .returned (.int .i64 (mayL [] true s i p k f)) ∧ Below w.heap.size w w' := by
  have hne := mayL_nil s i p k f
  have hb0 : Below w.heap.size w (w.alloc (.cells #[.int .i64 i, .string p, .int .i64 k, .int .i64 f] 40)) := (Below.refl _ _).alloc (Nat.le_refl _) _
  obtain ⟨b0, b1, b2, b3⟩ := cells_4 (heap_alloc_new w (.cells #[.int .i64 i, .string p, .int .i64 k, .int .i64 f] 40))
  have HM : Hid _ := may_none (w.alloc (.cells #[.int .i64 i, .string p, .int .i64 k, .int .i64 f] 40)) s i p k f none 0 [] (hg.below hb0) (fun w1 _ => of_nil w1 s) ⟨World.ownsRow_nil _ _ _ _, fun x hx => (by cases hx)⟩ (by simp) List.Pairwise.nil
  have HB0 : Hid _ := hb0
  obtain ⟨m, hm⟩ : ∃ m, mayL [] true s i p k f = m := ⟨_, rfl⟩
  rw [hm] at HM hne ⊢
  clear hg hb0 hm
  go_enter Tryz.func16, Tryz.ntmps16
  go_wp2_with (first
    | (go_at_call 38; refine Calls.mono HM.out ?_; rintro e w1 ⟨rfl, hb1⟩; (have HB1 : Hid (Below w.heap.size w w1) := xtrans2 HB0.out hb1); clear hb1 b0 b1 b2 b3)
    | fail)
  go_ret
  exact ⟨rfl, HB1.out⟩
/-- walk over a nil trie, under way. -/
structure WnJ (w : World) (W : World) : Prop where
  b0 : W.heap[w.heap.size]? = some (.cells #[.slice none 0 0] 29 (0, 0))
  b1 : W.heap[w.heap.size + 1]? = some (.cells #[.bool false] 4 (0, 0))
  bb : W.heap[w.heap.size + 1 + 1]? = some (.cells #[.pointer none] 26 (0, 0))
  bl : W.heap[w.heap.size + 1 + 1 + 1]? = some (.cells #[.slice none 0 0] 29 (0, 0))
  fr : Below w.heap.size w W
theorem WnJ.grown {w W W' : World} {row : Option Nat} {B0 : Nat} (h : WnJ w W) (hB : w.heap.size ≤ B0) (hg : W.grownBy W' row) (hr : ∀ r, row = some r → B0 ≤ r ∧ ∃ o : Obj, W.heap[r]? = some o ∧ o.isCells = false) : WnJ w W' := by
  have hk : Go.Proofs.YtbblckcjedjbcaaGreatDoor.Kp Go.Proofs.YtbblckcjedjbcaaGreatDoor.NoB W W' := (Go.Proofs.YtbblckcjedjbcaaGreatDoor.Kp.refl _ _).grown hg hr
  have no : ∀ k, ¬ Go.Proofs.YtbblckcjedjbcaaGreatDoor.NoB k := fun _ h => h
  exact ⟨hk.cells _ _ _ _ h.b0 (no _), hk.cells _ _ _ _ h.b1 (no _), hk.cells _ _ _ _ h.bb (no _), hk.cells _ _ _ _ h.bl (no _), h.fr.trans ⟨hg.os, hg.tape, hg.output, hg.size, fun k hk' => hg.block k (Nat.lt_of_lt_of_le hk' h.fr.size) (fun e => by have := (hr k e.symm).1; omega)⟩⟩
set_option maxRecDepth 100000 in
set_option maxHeartbeats 3200000 in
theorem nil_seq (n : Nat) (w : World) (B : Nat) (s0 : Unit) :
    SeqSt Fence.wide n Tryz.prog 42 #[.pointer (some ⟨w.heap.size + 1 + 1, 0, none⟩)] (fun x : ByteArray × Int × Int => #[.string x.1, tagV x.2.1 x.2.2]) B (fun _ W => WnJ w W) (fun _ _ _ => False) (fun _ _ _ => True) (fun _ _ => False) (fun W => WnJ w W) s0 := by
  intro l Z Zx W1 hZ hZx hY h0 hz0
  have hbx : W1.cell? ⟨w.heap.size + 1 + 1, 0, none⟩ = some (.pointer none) := by rw [cell_blkX h0.bb]; rfl
  have HZ1 : Hid (Z W1) := hz0
  have HJ : Hid (WnJ w W1) := h0
  clear hY hZ hZx h0 hz0
  refine callsIn_of_wp Tryz.func42 rfl trivial ?_ rfl
  simp only [Tryz.ntmps42, List.size_toArray, List.length_cons, List.length_nil, Nat.reduceAdd, Nat.reduceSub, Array.replicate_succ, Array.replicate_zero, List.push_toArray, List.append_toArray, List.nil_append, List.cons_append]
  gi_wp2
  refine bodyPost_ret (results_none rfl _ _ _) rfl ?_
  exact ⟨⟨_, rfl⟩, .inl ⟨HJ.out, HZ1.out⟩⟩
set_option maxRecDepth 100000 in
set_option maxHeartbeats 6400000 in
theorem walkNil (w : World) :
    Calls Tryz.prog 11 #[.pointer none] w fun e w' => e = .returned (.tuple #[.slice none 0 0, .bool true]) ∧ Below w.heap.size w w' := by
  have heq := eql2_func_nil
  refine (callsIn_wide (n := 3)).1 ?_
  refine callsIn_of_wp_marks Tryz.func11 rfl trivial ?_ rfl
  simp only [Tryz.ntmps11, List.size_toArray, List.length_cons, List.length_nil, Nat.reduceAdd, Nat.reduceSub, Array.replicate_succ, Array.replicate_zero, List.push_toArray, List.append_toArray, List.nil_append, List.cons_append]
  gi_wp2_with (refine ⟨trivial, ?_⟩; gi_at_call 18; refine (callsIn_wide.2 (walk_func _ _)).mono ?_; rintro e w' ⟨rfl, rfl⟩)
  obtain ⟨W0, hW0⟩ : ∃ W0, ((((w.alloc (.cells #[.slice none 0 0] 29)).alloc (.cells #[.bool false] 4)).alloc (.cells #[.pointer none] 26)).alloc (.cells #[.slice none 0 0] 29)) = W0 := ⟨_, rfl⟩
  have hb0 : Below w.heap.size w W0 := by rw [← hW0]; exact ((((Below.refl _ w).alloc (Nat.le_refl _) _).alloc (by simp) _).alloc (by simp; omega) _).alloc (by simp; omega) _
  have HJ0 : Hid (WnJ w W0) := by
    refine ⟨?_, ?_, ?_, ?_, hb0⟩
    · rw [← hW0]; exact new_old (new_old (new_old (heap_alloc_new _ _) _) _) _
    · rw [← hW0]; exact new_old (new_old (heap_new' (by simp)) _) _
    · rw [← hW0]; exact new_old (heap_new' (by simp)) _
    · rw [← hW0]; exact heap_new' (by simp)
  have hsz : W0.heap.size = w.heap.size + 1 + 1 + 1 + 1 := by rw [← hW0]; simp
  have hB0 : w.heap.size ≤ W0.heap.size := by omega
  rw [hW0]
  refine wpIn_range_sa (σ := Unit) (α := ByteArray × Int × Int) rfl (by decide) (gf := 42) (lb := #[.pointer (some ⟨w.heap.size + 1 + 1, 0, none⟩)]) rfl trivial (enters_of Tryz.func42 (by kernel_rfl) rfl)
    (encs := fun x => #[.string x.1, tagV x.2.1 x.2.2]) (fun _ => rfl)
    (I := fun _ W => WnJ w W) (Y := fun _ _ _ => False) (N := fun _ _ _ => True) (X := fun _ _ => False) (E := fun W => WnJ w W) (s0 := ())
    (nil_seq _ w W0.heap.size ()) ?oI ?oY ?oX ?oE ?st
    (A := fun _ _ _ _ => False) ?oA ?assign ?body ?done ?stop
  case oI => exact fun s A C row hs hg hr => hs.grown hB0 hg hr
  case oY => exact fun s x _ A C row hs hg hr => hs.elim
  case oX => exact fun _ _ _ _ h => h.elim
  case oE => exact fun _ A C row h hg hr => h.grown hB0 hg hr
  case st => exact HJ0.out
  case oA => exact fun _ _ _ _ _ _ _ h => h.elim
  case assign => exact fun _ _ _ _ _ h => h.elim
  case body => exact fun _ _ _ _ _ _ _ h => h.elim
  case done =>
    rintro D W hD hT hK
    have c0 : W.cell? ⟨w.heap.size + 1 + 1 + 1, 0, none⟩ = some (.slice none 0 0) := by rw [cell_blkX hT.bl]; rfl
    have r0 : W.cell? ⟨w.heap.size, 0, none⟩ = some (.slice none 0 0) := by rw [cell_blkX hT.b0]; rfl
    have r1 : W.cell? ⟨w.heap.size + 1, 0, none⟩ = some (.bool false) := by rw [cell_blkX hT.b1]; rfl
    have f0 := free_blkX hT.b0
    have f1 := free_blkX hT.b1
    have HT : Hid (WnJ w W) := hT
    clear hT HJ0 heq
    gi_wp2
    have hD0 : D ≠ w.heap.size := by omega
    have hD1 : D ≠ w.heap.size + 1 := by omega
    have hKD : ((W.setCell ⟨w.heap.size, 0, none⟩ (.slice none 0 0)).setCell ⟨w.heap.size + 1, 0, none⟩ (.bool true)).heap[D]? = some (.deferred (some [])) := other_blk (other_blk hK hD0) hD1
    refine ⟨by simp, .inl ⟨_, _, rfl, run_takeDeferred hKD, ?_⟩⟩
    have hbw : Below w.heap.size w (((W.setCell ⟨w.heap.size, 0, none⟩ (.slice none 0 0)).setCell ⟨w.heap.size + 1, 0, none⟩ (.bool true)).putObj D (.deferred none)) := by
      have h1 : Below w.heap.size w ((W.setCell ⟨w.heap.size, 0, none⟩ (.slice none 0 0)).setCell ⟨w.heap.size + 1, 0, none⟩ (.bool true)) := (HT.out.fr.setCell (Nat.le_refl _) _).setCell (Nat.le_succ _) _
      have h2 := grownBy_putObj' ((W.setCell ⟨w.heap.size, 0, none⟩ (.slice none 0 0)).setCell ⟨w.heap.size + 1, 0, none⟩ (.bool true)) D (.deferred none)
      exact h1.grown h2 h1.size (fun j hj => by cases hj; omega)
    refine ⟨_, results_boxX rfl _ _ w.heap.size (w.heap.size + 1) (.slice none 0 0) true rfl rfl ?_ ?_, rfl, hbw⟩
    · have h9 : (((W.setCell ⟨w.heap.size, 0, none⟩ (.slice none 0 0)).setCell ⟨w.heap.size + 1, 0, none⟩ (.bool true)).putObj D (.deferred none)).heap[w.heap.size]? = some (.cells #[.slice none 0 0] 29 (0, 0)) := by
        rw [World.putObj_heap_other (Ne.symm hD0)]
        exact other_blk (same_blk HT.out.b0 rfl) (by omega)
      rw [cell_blkX h9]; rfl
    · have h9 : (((W.setCell ⟨w.heap.size, 0, none⟩ (.slice none 0 0)).setCell ⟨w.heap.size + 1, 0, none⟩ (.bool true)).putObj D (.deferred none)).heap[w.heap.size + 1]? = some (.cells #[.bool true] 4 (0, 0)) := by
        rw [World.putObj_heap_other (Ne.symm hD1)]
        exact same_blk (other_blk HT.out.b1 (by omega)) rfl
      rw [cell_blkX h9]; rfl
  case stop => exact fun _ _ _ _ h => h.elim
end Go.Proofs.YtbblckcjedjbcaaGreatDoor.J
namespace Go.Proofs.YtbblckcjedjbcaaGreatDoor.J
open Go.RowKit Go.Maps
set_option linter.unusedVariables false
set_option linter.unusedSimpArgs false

/-- One act. -/
structure AcT where
  K : Int
  s : Int
  i : Int
  p : ByteArray
  k : Int
  f : Int
abbrev AcT.val (a : AcT) : Value := .agg #[.int .i64 a.K, .int .i64 a.s, .int .i64 a.i, .string a.p, .int .i64 a.k, .int .i64 a.f]
abbrev AcT.cs (a : AcT) : Array Value := #[.int .i64 a.K, .int .i64 a.s, .int .i64 a.i, .string a.p, .int .i64 a.k, .int .i64 a.f]
abbrev XBx (w : World) (X : Nat) : Prop := w.heap[X]? = some (.cells #[.bool true, .slice none 0 0] 69 (0, 0))
theorem below_fillX {w W : World} {B X : Nat} (hb : Below B w W) (hw : XBx w X) (hW : XBx W X) : Below B w ((W.setCell ⟨X, 0, none⟩ (.bool true)).setCell ⟨X, 1, none⟩ (.slice none 0 0)) := by
  have h0 : Below 0 w ((W.setCell ⟨X, 0, none⟩ (.bool true)).setCell ⟨X, 1, none⟩ (.slice none 0 0)) := ((hb.mono (Nat.zero_le _)).setCell (Nat.zero_le _) _).setCell (Nat.zero_le _) _
  refine ⟨h0.os, h0.tape, h0.output, ?_, fun k hk => ?_⟩
  · exact Nat.le_trans hb.size (by simp)
  · by_cases hx : k = X
    · subst hx
      rw [hw]
      exact fill2 hW
    · rw [Below.heap_setCell _ _ _ _ hx, Below.heap_setCell _ _ _ _ hx]
      exact hb.block k hk
theorem cells_6 {w : World} {b : Nat} {x0 x1 x2 x3 x4 x5 : Value} {t : TypeId} {fr : Nat × Nat} (h : w.heap[b]? = some (.cells #[x0, x1, x2, x3, x4, x5] t fr)) : w.cell? ⟨b, 0, none⟩ = some x0 ∧ w.cell? ⟨b, 1, none⟩ = some x1 ∧ w.cell? ⟨b, 2, none⟩ = some x2 ∧ w.cell? ⟨b, 3, none⟩ = some x3 ∧ w.cell? ⟨b, 4, none⟩ = some x4 ∧ w.cell? ⟨b, 5, none⟩ = some x5 := by
  refine ⟨?_, ?_, ?_, ?_, ?_, ?_⟩ <;> (rw [cell_blkX h]; rfl)
theorem ext_alloc {w W : World} (h : Below w.heap.size w W) (o : Obj) : Below w.heap.size w (W.alloc o) := h.alloc h.size o
theorem ext_set {w W : World} {g i : Nat} {v : Value} (h : Below w.heap.size w W) (hg : w.heap.size ≤ g) : Below w.heap.size w (W.setCell ⟨g, i, none⟩ v) := h.setCell hg v
set_option maxHeartbeats 6400000 in
set_option maxRecDepth 100000 in
theorem playN_1 (X : Nat) (s i : Int) (p : ByteArray) (k f : Int) (w : World) (hg : Ground w) (hx : XBx w X) :
    Calls Tryz.prog 25 #[.pointer none, .pointer (some ⟨X, 0, none⟩), .agg #[.int .i64 1, .int .i64 s, .int .i64 i, .string p, .int .i64 k, .int .i64 f]] w fun e w' => e = .returned (.bool true) ∧ Below w.heap.size w w' := by
  obtain ⟨w0, hw0⟩ : ∃ w0, w.alloc (.cells #[.int .i64 1, .int .i64 s, .int .i64 i, .string p, .int .i64 k, .int .i64 f] 72) = w0 := ⟨_, rfl⟩
  have HB0 : Hid (Below w.heap.size w w0) := by rw [← hw0]; exact (Below.refl _ _).alloc (Nat.le_refl _) _
  have hb0 : w0.heap[w.heap.size]? = some (.cells #[.int .i64 1, .int .i64 s, .int .i64 i, .string p, .int .i64 k, .int .i64 f] 72 (0, 0)) := by rw [← hw0]; exact heap_alloc_new _ _
  have HA0 : Hid (w0.heap[w.heap.size]? = some (.cells #[.int .i64 1, .int .i64 s, .int .i64 i, .string p, .int .i64 k, .int .i64 f] 72 (0, 0))) := hb0
  have HX : Hid (XBx w X) := hx
  have HX0 : Hid (XBx w0 X) := kept_block HB0.out hx
  have HG : Hid (Ground w) := hg
  have HXl : Hid (X < w.heap.size) := lt_of_blk hx
  have HSW : Hid (∀ w', Below w0.heap.size w0 w' → w'.cell? ⟨X, 0, none⟩ = some (.bool true) ∧ w'.cell? ⟨X, 1, none⟩ = some (.slice none 0 0) ∧ w'.cell? ⟨w.heap.size, 1, none⟩ = some (.int .i64 s) ∧ w'.cell? ⟨w.heap.size, 2, none⟩ = some (.int .i64 i) ∧ w'.cell? ⟨w.heap.size, 3, none⟩ = some (.string p) ∧ w'.cell? ⟨w.heap.size, 4, none⟩ = some (.int .i64 k) ∧ w'.cell? ⟨w.heap.size, 5, none⟩ = some (.int .i64 f)) := fun w' hb => by
    obtain ⟨a0, a1, a2, a3, a4, a5⟩ := cells_6 (kept_block hb HA0.out)
    obtain ⟨c0, c1⟩ := cells_2 (kept_block hb HX0.out)
    exact ⟨c0, c1, a1, a2, a3, a4, a5⟩
  obtain ⟨a0, a1, a2, a3, a4, a5⟩ := cells_6 hb0
  obtain ⟨c0, c1⟩ := cells_2 HX0.out
  have HADD : Hid (∀ W, _) := fun W => add0 s i p k f W
  have HAN : Hid (∀ W, Ground W → Calls Tryz.prog 16 #[.pointer none, .int .i64 s, watV i p k f] W fun e w' => e = .returned (.int .i64 (mayL [] true s i p k f)) ∧ Below W.heap.size W w') := fun W hW => addNil W s i p k f hW
  have HW : Hid (w.alloc (.cells #[.int .i64 1, .int .i64 s, .int .i64 i, .string p, .int .i64 k, .int .i64 f] 72) = w0) := hw0
  obtain ⟨r, hr⟩ : ∃ r : Int, (mayL [] true s i p k f) = r := ⟨_, rfl⟩
  rw [hr] at HADD HAN
  clear hg hx hb0
  go_enter Tryz.func25, Tryz.ntmps25
  rw [← hw0] at a0 a1 a2 a3 a4 a5 c0 c1
  clear hw0
  go_upto_region 3 with fail
  rw [HW.out] at a0 a1 a2 a3 a4 a5 c0 c1 ⊢
  go_cut [7, 8] from 22 to 32 (fun s8 s9 wc => ∃ (g8 : Nat), s8 = .pointer (some ⟨g8, 0, none⟩) ∧ s9 = .int .i64 r ∧ Hid (w0.heap.size ≤ g8) ∧ Hid (wc.heap[g8]? = some (.cells #[.bool true, .slice none 0 0] 69 (0, 0))) ∧ Hid (Below w0.heap.size w0 wc))
  case first =>
    go_region_held3 (fun w' => w'.cell? ⟨X, 0, none⟩ = some (.bool true) ∧ w'.cell? ⟨X, 1, none⟩ = some (.slice none 0 0) ∧ w'.cell? ⟨w.heap.size, 1, none⟩ = some (.int .i64 s) ∧ w'.cell? ⟨w.heap.size, 2, none⟩ = some (.int .i64 i) ∧ w'.cell? ⟨w.heap.size, 3, none⟩ = some (.string p) ∧ w'.cell? ⟨w.heap.size, 4, none⟩ = some (.int .i64 k) ∧ w'.cell? ⟨w.heap.size, 5, none⟩ = some (.int .i64 f))
      (first
      | (refine HSW.out _ ?_; repeat (first | exact Below.refl _ _ | exact HB4.out | refine below_drew ?_ | refine ext_alloc ?_ _ | refine ext_set ?_ (by first | exact Nat.le_refl _ | exact HB4.out.size)))
      | go_keep)
      (first
      | (go_at_call 49
         refine (HADD.out w0.drew).mono ?_
         rintro e w4 ⟨rfl, hb4⟩
         have HB4 : Hid (Below w0.heap.size w0 w4) := of_drew hb4
         clear hb4)
      | (go_at_call 49
         refine (HADD.out (w0.drew.alloc (.cells #[.bool false, .slice none 0 0] 69))).mono ?_
         rintro e w4 ⟨rfl, hb4⟩
         have hA4 : w4.heap[w0.heap.size]? = some (.cells #[.bool false, .slice none 0 0] 69 (0, 0)) := kept_block hb4 (heap_alloc_new w0.drew _)
         have HA4 : Hid (w4.heap[w0.heap.size]? = some (.cells #[.bool false, .slice none 0 0] 69 (0, 0))) := hA4
         obtain ⟨q0, q1⟩ := cells_2 hA4
         have f4 := free_of hA4
         have HB4 : Hid (Below w0.heap.size w0 w4) := xtrans2 ((below_drew (Below.refl _ _)).alloc (Nat.le_refl _) _) hb4
         clear hb4 hA4))
    all_goals
      go_wp2_with fail
      go_meet
    case rel => exact ⟨_, rfl, rfl, HB4.out.size, heap_alloc_new _ _, ext_alloc HB4.out _⟩
    case rel => exact ⟨_, rfl, rfl, Nat.le_refl _, fill2 HA4.out, ext_set (ext_set HB4.out (Nat.le_refl _)) (Nat.le_refl _)⟩
  case rest =>
    obtain ⟨g8, rfl, rfl, HG8, HA8, HB8⟩ := hcut
    clear a0 a1 a2 a3 a4 a5 c0 c1
    have HA5 : Hid (wc.heap[w.heap.size]? = some (.cells #[.int .i64 1, .int .i64 s, .int .i64 i, .string p, .int .i64 k, .int .i64 f] 72 (0, 0))) := kept_block HB8.out HA0.out
    have HX5 : Hid (XBx wc X) := kept_block HB8.out HX0.out
    obtain ⟨a0, a1, a2, a3, a4, a5⟩ := cells_6 HA5.out
    obtain ⟨c0, c1⟩ := cells_2 HX5.out
    obtain ⟨b0, b1⟩ := cells_2 HA8.out
    have fx := free_of HX5.out
    go_upto_region 5 with fail
    clear a0 a1 a2 a3 a4 a5 c0 c1 b0 b1 fx
    obtain ⟨W5, hW5⟩ : ∃ z, (wc.setCell ⟨X, 0, none⟩ (.bool true)).setCell ⟨X, 1, none⟩ (.slice none 0 0) = z := ⟨_, rfl⟩
    have HBW : Hid (Below w.heap.size w W5) := by rw [← hW5]; exact below_fillX (xtrans2 HB0.out HB8.out) HX.out HX5.out
    have h5 : W5.heap[w.heap.size]? = some (.cells #[.int .i64 1, .int .i64 s, .int .i64 i, .string p, .int .i64 k, .int .i64 f] 72 (0, 0)) := by
      have := HXl.out
      rw [← hW5]
      exact other_blk (other_blk HA5.out (by omega)) (by omega)
    rw [hW5]
    obtain ⟨a0, a1, a2, a3, a4, a5⟩ := cells_6 h5
    clear h5 hW5
    go_wp2_with (first
      | (go_at_call 16; refine Calls.mono (HAN.out _ (HG.out.below HBW.out)) ?_; rintro e w6 ⟨rfl, hb6⟩
         have HB6 : Hid (Below w.heap.size w w6) := xtrans2 HBW.out hb6
         clear hb6 a0 a1 a2 a3 a4 a5)
      | fail)
    go_ret
    exact ⟨by simp, HB6.out⟩
set_option maxHeartbeats 6400000 in
set_option maxRecDepth 100000 in
theorem playN_2 (X : Nat) (s i : Int) (p : ByteArray) (k f : Int) (w : World) (hg : Ground w) (hx : XBx w X) :
    Calls Tryz.prog 25 #[.pointer none, .pointer (some ⟨X, 0, none⟩), .agg #[.int .i64 2, .int .i64 s, .int .i64 i, .string p, .int .i64 k, .int .i64 f]] w fun e w' => e = .returned (.bool true) ∧ Below w.heap.size w w' := by
  obtain ⟨w0, hw0⟩ : ∃ w0, w.alloc (.cells #[.int .i64 2, .int .i64 s, .int .i64 i, .string p, .int .i64 k, .int .i64 f] 72) = w0 := ⟨_, rfl⟩
  have HB0 : Hid (Below w.heap.size w w0) := by rw [← hw0]; exact (Below.refl _ _).alloc (Nat.le_refl _) _
  have hb0 : w0.heap[w.heap.size]? = some (.cells #[.int .i64 2, .int .i64 s, .int .i64 i, .string p, .int .i64 k, .int .i64 f] 72 (0, 0)) := by rw [← hw0]; exact heap_alloc_new _ _
  have HA0 : Hid (w0.heap[w.heap.size]? = some (.cells #[.int .i64 2, .int .i64 s, .int .i64 i, .string p, .int .i64 k, .int .i64 f] 72 (0, 0))) := hb0
  have HX : Hid (XBx w X) := hx
  have HX0 : Hid (XBx w0 X) := kept_block HB0.out hx
  have HG : Hid (Ground w) := hg
  have HXl : Hid (X < w.heap.size) := lt_of_blk hx
  have HSW : Hid (∀ w', Below w0.heap.size w0 w' → w'.cell? ⟨X, 0, none⟩ = some (.bool true) ∧ w'.cell? ⟨X, 1, none⟩ = some (.slice none 0 0) ∧ w'.cell? ⟨w.heap.size, 1, none⟩ = some (.int .i64 s) ∧ w'.cell? ⟨w.heap.size, 2, none⟩ = some (.int .i64 i)) := fun w' hb => by
    obtain ⟨a0, a1, a2, a3, a4, a5⟩ := cells_6 (kept_block hb HA0.out)
    obtain ⟨c0, c1⟩ := cells_2 (kept_block hb HX0.out)
    exact ⟨c0, c1, a1, a2⟩
  obtain ⟨a0, a1, a2, a3, a4, a5⟩ := cells_6 hb0
  obtain ⟨c0, c1⟩ := cells_2 HX0.out
  have HADD : Hid (∀ W, _) := fun W => drop0 s i W
  have HAN : Hid (∀ W, Ground W → Calls Tryz.prog 19 #[.pointer none, .int .i64 s, .int .i64 i] W fun e w' => e = .returned (.int .i64 (90)) ∧ Below W.heap.size W w') := fun W hW => dropNil W s i
  have HW : Hid (w.alloc (.cells #[.int .i64 2, .int .i64 s, .int .i64 i, .string p, .int .i64 k, .int .i64 f] 72) = w0) := hw0
  obtain ⟨r, hr⟩ : ∃ r : Int, (90) = r := ⟨_, rfl⟩
  rw [hr] at HADD HAN
  clear hg hx hb0
  go_enter Tryz.func25, Tryz.ntmps25
  rw [← hw0] at a0 a1 a2 a3 a4 a5 c0 c1
  clear hw0
  go_upto_region 7 with fail
  rw [HW.out] at a0 a1 a2 a3 a4 a5 c0 c1 ⊢
  go_cut [9, 10] from 46 to 57 (fun s8 s9 wc => ∃ (g8 : Nat), s8 = .pointer (some ⟨g8, 0, none⟩) ∧ s9 = .int .i64 r ∧ Hid (w0.heap.size ≤ g8) ∧ Hid (wc.heap[g8]? = some (.cells #[.bool true, .slice none 0 0] 69 (0, 0))) ∧ Hid (Below w0.heap.size w0 wc))
  case first =>
    go_region_held3 (fun w' => w'.cell? ⟨X, 0, none⟩ = some (.bool true) ∧ w'.cell? ⟨X, 1, none⟩ = some (.slice none 0 0) ∧ w'.cell? ⟨w.heap.size, 1, none⟩ = some (.int .i64 s) ∧ w'.cell? ⟨w.heap.size, 2, none⟩ = some (.int .i64 i))
      (first
      | (refine HSW.out _ ?_; repeat (first | exact Below.refl _ _ | exact HB4.out | refine below_drew ?_ | refine ext_alloc ?_ _ | refine ext_set ?_ (by first | exact Nat.le_refl _ | exact HB4.out.size)))
      | go_keep)
      (first
      | (go_at_call 50
         refine (HADD.out w0.drew).mono ?_
         rintro e w4 ⟨rfl, hb4⟩
         have HB4 : Hid (Below w0.heap.size w0 w4) := of_drew hb4
         clear hb4)
      | (go_at_call 50
         refine (HADD.out (w0.drew.alloc (.cells #[.bool false, .slice none 0 0] 69))).mono ?_
         rintro e w4 ⟨rfl, hb4⟩
         have hA4 : w4.heap[w0.heap.size]? = some (.cells #[.bool false, .slice none 0 0] 69 (0, 0)) := kept_block hb4 (heap_alloc_new w0.drew _)
         have HA4 : Hid (w4.heap[w0.heap.size]? = some (.cells #[.bool false, .slice none 0 0] 69 (0, 0))) := hA4
         obtain ⟨q0, q1⟩ := cells_2 hA4
         have f4 := free_of hA4
         have HB4 : Hid (Below w0.heap.size w0 w4) := xtrans2 ((below_drew (Below.refl _ _)).alloc (Nat.le_refl _) _) hb4
         clear hb4 hA4))
    all_goals
      go_wp2_with fail
      go_meet
    case rel => exact ⟨_, rfl, rfl, HB4.out.size, heap_alloc_new _ _, ext_alloc HB4.out _⟩
    case rel => exact ⟨_, rfl, rfl, Nat.le_refl _, fill2 HA4.out, ext_set (ext_set HB4.out (Nat.le_refl _)) (Nat.le_refl _)⟩
  case rest =>
    obtain ⟨g8, rfl, rfl, HG8, HA8, HB8⟩ := hcut
    clear a0 a1 a2 a3 a4 a5 c0 c1
    have HA5 : Hid (wc.heap[w.heap.size]? = some (.cells #[.int .i64 2, .int .i64 s, .int .i64 i, .string p, .int .i64 k, .int .i64 f] 72 (0, 0))) := kept_block HB8.out HA0.out
    have HX5 : Hid (XBx wc X) := kept_block HB8.out HX0.out
    obtain ⟨a0, a1, a2, a3, a4, a5⟩ := cells_6 HA5.out
    obtain ⟨c0, c1⟩ := cells_2 HX5.out
    obtain ⟨b0, b1⟩ := cells_2 HA8.out
    have fx := free_of HX5.out
    go_upto_region 9 with fail
    clear a0 a1 a2 a3 a4 a5 c0 c1 b0 b1 fx
    obtain ⟨W5, hW5⟩ : ∃ z, (wc.setCell ⟨X, 0, none⟩ (.bool true)).setCell ⟨X, 1, none⟩ (.slice none 0 0) = z := ⟨_, rfl⟩
    have HBW : Hid (Below w.heap.size w W5) := by rw [← hW5]; exact below_fillX (xtrans2 HB0.out HB8.out) HX.out HX5.out
    have h5 : W5.heap[w.heap.size]? = some (.cells #[.int .i64 2, .int .i64 s, .int .i64 i, .string p, .int .i64 k, .int .i64 f] 72 (0, 0)) := by
      have := HXl.out
      rw [← hW5]
      exact other_blk (other_blk HA5.out (by omega)) (by omega)
    rw [hW5]
    obtain ⟨a0, a1, a2, a3, a4, a5⟩ := cells_6 h5
    clear h5 hW5
    go_wp2_with (first
      | (go_at_call 19; refine Calls.mono (HAN.out _ (HG.out.below HBW.out)) ?_; rintro e w6 ⟨rfl, hb6⟩
         have HB6 : Hid (Below w.heap.size w w6) := xtrans2 HBW.out hb6
         clear hb6 a0 a1 a2 a3 a4 a5)
      | fail)
    go_ret
    exact ⟨by simp, HB6.out⟩
set_option maxHeartbeats 6400000 in
set_option maxRecDepth 100000 in
theorem playN_3 (X : Nat) (s i : Int) (p : ByteArray) (k f : Int) (w : World) (hg : Ground w) (hx : XBx w X) :
    Calls Tryz.prog 25 #[.pointer none, .pointer (some ⟨X, 0, none⟩), .agg #[.int .i64 3, .int .i64 s, .int .i64 i, .string p, .int .i64 k, .int .i64 f]] w fun e w' => e = .returned (.bool true) ∧ Below w.heap.size w w' := by
  obtain ⟨w0, hw0⟩ : ∃ w0, w.alloc (.cells #[.int .i64 3, .int .i64 s, .int .i64 i, .string p, .int .i64 k, .int .i64 f] 72) = w0 := ⟨_, rfl⟩
  have HB0 : Hid (Below w.heap.size w w0) := by rw [← hw0]; exact (Below.refl _ _).alloc (Nat.le_refl _) _
  have hb0 : w0.heap[w.heap.size]? = some (.cells #[.int .i64 3, .int .i64 s, .int .i64 i, .string p, .int .i64 k, .int .i64 f] 72 (0, 0)) := by rw [← hw0]; exact heap_alloc_new _ _
  have HA0 : Hid (w0.heap[w.heap.size]? = some (.cells #[.int .i64 3, .int .i64 s, .int .i64 i, .string p, .int .i64 k, .int .i64 f] 72 (0, 0))) := hb0
  have HX : Hid (XBx w X) := hx
  have HX0 : Hid (XBx w0 X) := kept_block HB0.out hx
  have HG : Hid (Ground w) := hg
  have HXl : Hid (X < w.heap.size) := lt_of_blk hx
  have HSW : Hid (∀ w', Below w0.heap.size w0 w' → w'.cell? ⟨X, 0, none⟩ = some (.bool true) ∧ w'.cell? ⟨X, 1, none⟩ = some (.slice none 0 0) ∧ w'.cell? ⟨w.heap.size, 1, none⟩ = some (.int .i64 s)) := fun w' hb => by
    obtain ⟨a0, a1, a2, a3, a4, a5⟩ := cells_6 (kept_block hb HA0.out)
    obtain ⟨c0, c1⟩ := cells_2 (kept_block hb HX0.out)
    exact ⟨c0, c1, a1⟩
  obtain ⟨a0, a1, a2, a3, a4, a5⟩ := cells_6 hb0
  obtain ⟨c0, c1⟩ := cells_2 HX0.out
  have HADD : Hid (∀ W, _) := fun W => forget0 s W
  have HAN : Hid (∀ W, Ground W → Calls Tryz.prog 23 #[.pointer none, .int .i64 s] W fun e w' => e = .returned (.int .i64 (0)) ∧ Below W.heap.size W w') := fun W hW => Calls.mono (forgetNil W s) (fun e w' h => ⟨h.1, by rw [h.2]; exact Below.refl _ _⟩)
  have HW : Hid (w.alloc (.cells #[.int .i64 3, .int .i64 s, .int .i64 i, .string p, .int .i64 k, .int .i64 f] 72) = w0) := hw0
  obtain ⟨r, hr⟩ : ∃ r : Int, (0) = r := ⟨_, rfl⟩
  rw [hr] at HADD HAN
  clear hg hx hb0
  go_enter Tryz.func25, Tryz.ntmps25
  rw [← hw0] at a0 a1 a2 a3 a4 a5 c0 c1
  clear hw0
  go_upto_region 11 with fail
  rw [HW.out] at a0 a1 a2 a3 a4 a5 c0 c1 ⊢
  go_cut [11, 12] from 72 to 80 (fun s8 s9 wc => ∃ (g8 : Nat), s8 = .pointer (some ⟨g8, 0, none⟩) ∧ s9 = .int .i64 r ∧ Hid (w0.heap.size ≤ g8) ∧ Hid (wc.heap[g8]? = some (.cells #[.bool true, .slice none 0 0] 69 (0, 0))) ∧ Hid (Below w0.heap.size w0 wc))
  case first =>
    go_region_held3 (fun w' => w'.cell? ⟨X, 0, none⟩ = some (.bool true) ∧ w'.cell? ⟨X, 1, none⟩ = some (.slice none 0 0) ∧ w'.cell? ⟨w.heap.size, 1, none⟩ = some (.int .i64 s))
      (first
      | (refine HSW.out _ ?_; repeat (first | exact Below.refl _ _ | exact HB4.out | refine below_drew ?_ | refine ext_alloc ?_ _ | refine ext_set ?_ (by first | exact Nat.le_refl _ | exact HB4.out.size)))
      | go_keep)
      (first
      | (go_at_call 51
         refine (HADD.out w0.drew).mono ?_
         rintro e w4 ⟨rfl, hb4⟩
         have HB4 : Hid (Below w0.heap.size w0 w4) := of_drew hb4
         clear hb4)
      | (go_at_call 51
         refine (HADD.out (w0.drew.alloc (.cells #[.bool false, .slice none 0 0] 69))).mono ?_
         rintro e w4 ⟨rfl, hb4⟩
         have hA4 : w4.heap[w0.heap.size]? = some (.cells #[.bool false, .slice none 0 0] 69 (0, 0)) := kept_block hb4 (heap_alloc_new w0.drew _)
         have HA4 : Hid (w4.heap[w0.heap.size]? = some (.cells #[.bool false, .slice none 0 0] 69 (0, 0))) := hA4
         obtain ⟨q0, q1⟩ := cells_2 hA4
         have f4 := free_of hA4
         have HB4 : Hid (Below w0.heap.size w0 w4) := xtrans2 ((below_drew (Below.refl _ _)).alloc (Nat.le_refl _) _) hb4
         clear hb4 hA4))
    all_goals
      go_wp2_with fail
      go_meet
    case rel => exact ⟨_, rfl, rfl, HB4.out.size, heap_alloc_new _ _, ext_alloc HB4.out _⟩
    case rel => exact ⟨_, rfl, rfl, Nat.le_refl _, fill2 HA4.out, ext_set (ext_set HB4.out (Nat.le_refl _)) (Nat.le_refl _)⟩
  case rest =>
    obtain ⟨g8, rfl, rfl, HG8, HA8, HB8⟩ := hcut
    clear a0 a1 a2 a3 a4 a5 c0 c1
    have HA5 : Hid (wc.heap[w.heap.size]? = some (.cells #[.int .i64 3, .int .i64 s, .int .i64 i, .string p, .int .i64 k, .int .i64 f] 72 (0, 0))) := kept_block HB8.out HA0.out
    have HX5 : Hid (XBx wc X) := kept_block HB8.out HX0.out
    obtain ⟨a0, a1, a2, a3, a4, a5⟩ := cells_6 HA5.out
    obtain ⟨c0, c1⟩ := cells_2 HX5.out
    obtain ⟨b0, b1⟩ := cells_2 HA8.out
    have fx := free_of HX5.out
    go_upto_region 13 with fail
    clear a0 a1 a2 a3 a4 a5 c0 c1 b0 b1 fx
    obtain ⟨W5, hW5⟩ : ∃ z, (wc.setCell ⟨X, 0, none⟩ (.bool true)).setCell ⟨X, 1, none⟩ (.slice none 0 0) = z := ⟨_, rfl⟩
    have HBW : Hid (Below w.heap.size w W5) := by rw [← hW5]; exact below_fillX (xtrans2 HB0.out HB8.out) HX.out HX5.out
    have h5 : W5.heap[w.heap.size]? = some (.cells #[.int .i64 3, .int .i64 s, .int .i64 i, .string p, .int .i64 k, .int .i64 f] 72 (0, 0)) := by
      have := HXl.out
      rw [← hW5]
      exact other_blk (other_blk HA5.out (by omega)) (by omega)
    rw [hW5]
    obtain ⟨a0, a1, a2, a3, a4, a5⟩ := cells_6 h5
    clear h5 hW5
    go_wp2_with (first
      | (go_at_call 23; refine Calls.mono (HAN.out _ (HG.out.below HBW.out)) ?_; rintro e w6 ⟨rfl, hb6⟩
         have HB6 : Hid (Below w.heap.size w w6) := xtrans2 HBW.out hb6
         clear hb6 a0 a1 a2 a3 a4 a5)
      | fail)
    go_ret
    exact ⟨by simp, HB6.out⟩
end Go.Proofs.YtbblckcjedjbcaaGreatDoor.J
