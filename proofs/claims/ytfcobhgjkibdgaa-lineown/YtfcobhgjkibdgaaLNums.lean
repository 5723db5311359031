/-
  line: the numbers of a map, in order (range, append, slices.Sort).
-/
import Derived.Test.YtfcobhgjkibdgaaLSort
import Derived.Test.YtfcobhgjkibdgaaLFind
import Derived.Maps.RangeWalk
namespace Go.Proofs.Ytfcobhgjkibdgaa
open Go.RowKit Go.Maps
set_option linter.unusedVariables false
set_option linter.unusedSimpArgs false

theorem make0 (n : Nat) (hn : n ≤ 1000000) : ∃ M : Array Value, M.size = n ∧ ∀ w : World, (Instr.makeSlice 28 (.int .i64 0) (.int .i64 n)).run Try.prog w = .ok (.slice (some ⟨w.heap.size, 0, none⟩) 0 n) (w.alloc (.cells M 3)) := by
  cases hi : Try.prog.info? 3 with
  | none => have := Try.info_int; rw [hi] at this; cases this
  | some i0 =>
    have hinfo := Try.info_int
    rw [hi] at hinfo
    simp only [Option.map_some, Option.some.injEq, Prod.mk.injEq] at hinfo
    refine ⟨madeCells (Value.cells (.int .i64 0)) (n * 1), by rw [size_madeCells, Nat.mul_one], fun w => ?_⟩
    have h := run_make (P := Try.prog) w 28 3 i0 _ Try.underlying28 hi hinfo.1 .i64 .i64 0 n (by omega) (by omega) (by rw [hinfo.2.2]; omega) (by omega)
    rw [hinfo.2.1] at h
    simpa using h
theorem range_nil (w : World) : (Instr.range 62 (.map none)).run Try.prog w = .ok (.pointer (some ⟨w.heap.size, 0, none⟩)) (w.alloc (.mapIter none 0 #[] 0)) := by
  simp [Instr.range, run_underlying Try.underlying62]
theorem next_nil {w : World} {r : Nat} (h : w.heap[r]? = some (.mapIter none 0 #[] 0)) (ty : TypeId) : (Instr.next (.pointer (some ⟨r, 0, none⟩)) false ty).run Try.prog w = .ok (.tuple #[.bool false]) w := by
  have hg : (getObj r).run Try.prog w = .ok (.mapIter none 0 #[] 0) w := by simp [getObj, Sem.run, h]
  simp [Instr.next, hg]
set_option maxHeartbeats 4000000 in
set_option maxRecDepth 100000 in
theorem numbers_map (b mb : Nat) (L : LnT) (Km : Nat → Prop) (val : PcT → Value) (w : World) (hbox : w.heap[b]? = some (.cells #[.map (some mb), .int .i64 L.gv] 64 (0, 0))) (hF : FlM w Km (.map (some mb)) L.fl val) (hok : L.Ok) :
    Calls Try.prog 19 #[.pointer (some ⟨b, 0, none⟩)] w fun e w' => ∃ u, e = .returned u ∧ InsOwn w' w.heap.size u (L.fl.map fun p => (p.n : Int)) ∧ Below w.heap.size w w' := by
  rcases hF with ⟨h, _⟩ | ⟨mb', D, h1, h2, hm, hrep⟩
  · cases h
  cases h1
  obtain ⟨c0, c1⟩ := cells_2 hbox
  obtain ⟨fn, hfn⟩ : ∃ z, L.fl.length = z := ⟨_, rfl⟩
  rw [hfn] at hm
  have hbl := hm.lt
  have hfl : fn ≤ 256 := by rw [← hfn]; exact hok.len
  have HREP : Hid (RepM D L.fl val) := hrep
  have HRISE : Hid (L.fl.Pairwise (fun a b => a.n < b.n)) := hok.rise
  have HFN : Hid (L.fl.length = fn) := hfn
  obtain ⟨M, hM, hmk0⟩ := make0 fn (by omega)
  obtain ⟨W, hW⟩ : ∃ z, w.alloc (.cells M 3) = z := ⟨_, rfl⟩
  have hbW : Below w.heap.size w W := by rw [← hW]; exact (Below.refl _ _).alloc (Nat.le_refl _) _
  have hszW : W.heap.size = w.heap.size + 1 := by rw [← hW]; simp
  have hmk : (Instr.makeSlice 28 (.int .i64 0) (.int .i64 fn)).run Try.prog w = .ok (.slice (some ⟨w.heap.size, 0, none⟩) 0 fn) W := by rw [← hW]; exact hmk0 w
  have HR0 : Hid (W.ownsRow w.heap.size 3 1 (.slice (some ⟨w.heap.size, 0, none⟩) 0 fn) 0 []) := by
    show World.ownsRow _ _ _ _ _ _ _
    rw [← hW]
    exact World.ownsRow_made w M fn (Nat.le_refl _) (by unfold maxLen; omega) (by omega)
  have HBW : Hid (Below w.heap.size w W) := hbW
  have hmW : W.ownsMap Try.prog 3 raw mb fn D := by obtain ⟨es, clock, hb', F, hs, hD⟩ := hm; exact ⟨es, clock, (hbW.block mb hbl).trans hb', F, hs, hD⟩
  have hblb := lt_of_blk hbox
  have c0' : W.cell? ⟨b, 0, none⟩ = some (.map (some mb)) := by rw [hbW.cell (p := ⟨b, 0, none⟩) hblb]; exact c0
  have hlen := fun ty => hm.len (P := Try.prog) (t := 62) Try.underlying62 ty
  have hsD : Maps.size D = fn := by rw [hrep.size]; exact hfn
  rw [hsD] at hlen
  have HSZ : Hid (W.heap.size = w.heap.size + 1) := hszW
  clear hrep hok hfn hbox h2 hmk0 hM hW hbW hm hszW hsD c1 hblb
  go_enter Try.func19, Try.ntmps19
  go_wp2_with (first
    | (at_range; go_loud (refine wpList_range_own _ rfl _ 62 rfl 3 _ keyedI Try.underlying62 raw mb fn D rfl hmW ?_; intro w0 hrg0 hg0 hs0))
    | fail)
  go_frame
  go_loopw [3, 4] (fun v k wr => ∃ (left : Lit → Bool) (cnt : Nat) (xs : List Int), wr.ranges Try.prog 3 raw mb W.heap.size fn D left cnt ∧ Hid (Met D left xs) ∧ Hid (wr.ownsRow w.heap.size 3 1 v xs.length (xs.map (.int .i64 ·))) ∧ Hid (Below w.heap.size w wr)) (fun _ _ wr => wr.rangeLeft mb W.heap.size)
  case atStart => exact ⟨_, _, [], hrg0, met0 D, HR0.out.kept hg0 (Or.inr (by simp [Value.ownBlock])), HBW.out.grown hg0 HBW.out.size (fun j hj => by cases hj)⟩
  case round =>
    obtain ⟨left, cnt, xs, hrg, HM, HR, HB⟩ := hrel
    have hxl : xs.length ≤ fn := by rw [← HFN.out]; exact HM.out.len HREP.out
    go_wp2_with (first
      | (at_next; go_loud (refine wpList_next_ranges _ rfl _ rfl 3 keyedI raw (fun x : Int => Value.int .i64 x) id (fun key kl hk => by obtain ⟨x, hx, _⟩ := Maps.keyOf_int_inv Try.underlying3 hk; exact ⟨x, hx⟩) (fun v y hv => ⟨v, rfl⟩) mb W.heap.size fn _ _ _ rfl hrg ?_ ?_))
      | fail)
    · intro hc0 hl0
      have HE : Hid ((xs.mergeSort fun x y => decide (x ≤ y)) = L.fl.map (fun p => (p.n : Int))) := HM.out.done HREP.out hl0 HRISE.out
      have HSO : Hid _ := sort_any w.heap.size u3 xs wr HR.out (by omega)
      have HRW : Hid (∀ k, u3.ownBlock = some k → w.heap.size ≤ k) := fun k hk => (row_block HR.out k hk).1
      rw [HE.out] at HSO
      clear hrg hc0 hl0
      go_wp2_with fail
      refine Calls.mono HSO.out ?_
      rintro e w5 ⟨rfl, ho5, hc5⟩
      have HO5 : Hid _ := ho5
      have HB5 : Hid (Below w.heap.size w w5) := ⟨hc5.os.trans HB.out.os, hc5.tape.trans HB.out.tape, hc5.output.trans HB.out.output, Nat.le_trans HB.out.size hc5.size, fun k hk => (hc5.block k (Nat.lt_of_lt_of_le hk HB.out.size) (fun e => by have := HRW.out k e; omega)).trans (HB.out.block k hk)⟩
      clear ho5 hc5
      go_wp2_with fail
      go_ret
      exact ⟨_, rfl, HO5.out, HB5.out⟩
    · intro x c kl yd yp w2 cnt2 hkey hlk hv hat hrg2 hlt hg2 hs2 hen
      obtain ⟨x', ex, rfl, _⟩ := Maps.keyOf_int_inv Try.underlying3 hkey
      obtain rfl : x = x' := by simpa using ex
      have HR2 : Hid (w2.ownsRow w.heap.size 3 1 u3 xs.length (xs.map (.int .i64 ·))) := HR.out.kept hg2 (Or.inr (row_ne_iter HR.out hrg).symm)
      have HB2 : Hid (Below w.heap.size w w2) := HB.out.grown hg2 HB.out.size (fun j hj => by cases hj; have := HSZ.out; omega)
      have HX : Hid (Maps.has D (kyI x) = true) := by
        show _ = _
        cases hh : Maps.has D (kyI x) with
        | true => rfl
        | false =>
          have a1 := hat (.map [])
          have a2 := hat (.held undef)
          rw [Maps.atKey_of_not_has hh] at a1 a2
          rw [← a1] at a2
          cases a2
      clear hs2
      go_wp2_with (first
        | (at_builtin; refine wpList_row Try.underlying28 Try.info_int rfl (by decide) rfl _ _ rfl w.heap.size u3 xs.length (xs.map (.int .i64 ·)) rfl (World.ownsRow.alloc HR2.out _) w2.heap.size 1 [.int .i64 x] rfl (heap_alloc_new _ _) rfl (by simp [Value.oneCell']) (by unfold maxLen; omega) (by omega) (by rw [World.size_alloc]; have := HB2.out.size; omega) ?_
           intro v4 w4 hown4 hg4 ho4)
        | fail)
      have hrg4 := (hrg2.alloc _).kept hg4 (row_ne_low HR2.out hbl) (row_ne_iter HR2.out hrg2)
      go_roundw
      case rel =>
        refine ⟨_, cnt2, xs ++ [x], hrg4, HM.out.next hlk HX.out, ?_, ?_⟩
        · show World.ownsRow _ _ _ _ _ _ _
          simpa using hown4
        · exact (HB2.out.alloc HB2.out.size _).grown hg4 (by have := HB2.out.size; simp; omega) (fun j hj => (HR2.out.lt j hj).1)
      case measure => rw [hrg4.left_eq, hrg.left_eq]; exact hlt
set_option maxHeartbeats 4000000 in
set_option maxRecDepth 100000 in
theorem numbers_nilmap (b gv : Nat) (w : World) (hbox : w.heap[b]? = some (.cells #[.map none, .int .i64 gv] 64 (0, 0))) :
    Calls Try.prog 19 #[.pointer (some ⟨b, 0, none⟩)] w fun e w' => ∃ u, e = .returned u ∧ InsOwn w' w.heap.size u [] ∧ Below w.heap.size w w' := by
  obtain ⟨c0, c1⟩ := cells_2 hbox
  obtain ⟨M, hM, hmk0⟩ := make0 0 (by omega)
  obtain ⟨W, hW⟩ : ∃ z, w.alloc (.cells M 3) = z := ⟨_, rfl⟩
  have hbW : Below w.heap.size w W := by rw [← hW]; exact (Below.refl _ _).alloc (Nat.le_refl _) _
  have hmk : (Instr.makeSlice 28 (.int .i64 0) (.int .i64 0)).run Try.prog w = .ok (.slice (some ⟨w.heap.size, 0, none⟩) 0 0) W := by rw [← hW]; exact hmk0 w
  have HR0 : Hid (W.ownsRow w.heap.size 3 1 (.slice (some ⟨w.heap.size, 0, none⟩) 0 0) 0 []) := by
    show World.ownsRow _ _ _ _ _ _ _
    rw [← hW]
    exact World.ownsRow_made w M 0 (Nat.le_refl _) (by unfold maxLen; omega) (by omega)
  have hblb := lt_of_blk hbox
  have c0' : W.cell? ⟨b, 0, none⟩ = some (.map none) := by rw [hbW.cell (p := ⟨b, 0, none⟩) hblb]; exact c0
  have hlen := fun ty => Maps.len_nil (P := Try.prog) (w := w) (t := 62) Try.underlying62 ty
  obtain ⟨X, hX⟩ : ∃ z, W.alloc (.mapIter none 0 #[] 0) = z := ⟨_, rfl⟩
  have hrg : (Instr.range 62 (.map none)).run Try.prog W = .ok (.pointer (some ⟨W.heap.size, 0, none⟩)) X := by rw [← hX]; exact range_nil W
  have HXI : Hid (X.heap[W.heap.size]? = some (.mapIter none 0 #[] 0)) := by show _ = _; rw [← hX]; exact heap_alloc_new _ _
  have hbX : Below W.heap.size W X := by rw [← hX]; exact (Below.refl _ _).alloc (Nat.le_refl _) _
  have HRX : Hid (X.ownsRow w.heap.size 3 1 (.slice (some ⟨w.heap.size, 0, none⟩) 0 0) 0 []) := owns_below HR0.out hbX
  have HBX : Hid (Below w.heap.size w X) := trans2 hbW hbX
  have HSO : Hid _ := sort_any w.heap.size (.slice (some ⟨w.heap.size, 0, none⟩) 0 0) [] X HRX.out (by simp)
  have hnx := fun ty => next_nil HXI.out ty
  clear hX hW hbW hbX hmk0 hM hbox hblb c1
  go_enter Try.func19, Try.ntmps19
  go_wp2_with fail
  go_loopw [3, 4] (fun v k wr => v = .slice (some ⟨w.heap.size, 0, none⟩) 0 0 ∧ wr = X) (fun _ _ _ => 0)
  case atStart => exact ⟨rfl, rfl⟩
  case round =>
    obtain ⟨rfl, rfl⟩ := hrel
    go_wp2_with fail
    refine Calls.mono HSO.out ?_
    rintro e w5 ⟨rfl, ho5, hc5⟩
    have HO5 : Hid (InsOwn w5 w.heap.size (.slice (some ⟨w.heap.size, 0, none⟩) 0 0) []) := by rw [List.mergeSort_nil] at ho5; exact ho5
    have HB5 : Hid (Below w.heap.size w w5) := HBX.out.trans (hc5.below HBX.out.size (fun k _ e => by cases e; exact Nat.le_refl _))
    clear ho5 hc5
    go_wp2_with fail
    go_ret
    exact ⟨_, rfl, HO5.out, HB5.out⟩
end Go.Proofs.Ytfcobhgjkibdgaa
