/-
  queue: strings.Clone, copies of numbers.
-/
import Derived.Test.YtjcnigffpamcgaaGreatDoorQBase
import Derived.Test.YtjcnigffpamcgaaGreatDoorRClone
import Derived.Laws.MakeOwn
namespace Go.Proofs.YtjcnigffpamcgaaGreatDoor
open Go.RowKit
set_option linter.unusedVariables false
set_option linter.unusedSimpArgs false

theorem clone_any (s : ByteArray) (w : World) (h : s.size ≤ MaxText) : Calls Tryz.prog 123 #[.string s] w fun e w' => e = .returned (.string s) ∧ Below w.heap.size w w' := by
  have HC : Hid _ := Tryz.stringslite_Clone s w h
  clear h
  go_enter Tryz.func123, Tryz.ntmps123
  go_wp2_with fail
  refine Calls.mono HC.out ?_
  rintro e w1 ⟨rfl, hb⟩
  have HB : Hid (Below w.heap.size w w1) := hb
  clear hb
  go_wp2_with fail
  go_ret
  exact ⟨rfl, HB.out⟩
theorem id_any (x : Int) (w : World) : Calls Tryz.prog 284 #[.int .i64 x] w fun e w' => e = .returned (.int .i64 x) ∧ w' = w := by
  go_enter Tryz.func284, Tryz.ntmps284
  go_wp2_with fail
  go_ret
  exact ⟨rfl, rfl⟩
theorem Tryz.infoInt : (Tryz.prog.info? 3).map (fun i => (i.zero, i.size, i.bytes)) = some (some (.int .i64 0), 1, 8) := by kernel_rfl
/-- make. -/
theorem make_any {tS tE sz by' : Nat} {z : Value} (hu : Tryz.prog.underlying tS = some (.slice tE)) (hinfo : (Tryz.prog.info? tE).map (fun i => (i.zero, i.size, i.bytes)) = some (some z, sz, by')) (n : Nat) (hn : n * by' ≤ MaxRow) (hn2 : n ≤ MaxRow) : ∃ M : Array Value, M.size = n * sz ∧ ∀ w : World, (Instr.makeSlice tS (.int .i64 n) (.int .i64 n)).run Tryz.prog w = .ok (.slice (some ⟨w.heap.size, 0, none⟩) n n) (w.alloc (.cells M tE)) := by
  obtain ⟨i0, hi, hz0, hz1, hz2⟩ := info_parts hinfo
  refine ⟨madeCells z.cells (n * sz), by rw [size_madeCells], fun w => ?_⟩
  have h := run_make (P := Tryz.prog) w tS tE i0 _ hu hi hz0 .i64 .i64 n n (by omega) (Int.le_refl _) (by rw [hz2]; have h2 : ((n * by' : Nat) : Int) ≤ ((140737488355328 : Nat) : Int) := Int.ofNat_le.2 hn; rw [Int.natCast_mul] at h2; rw [Int.mul_comm]; omega) (by unfold MaxRow at hn2; omega)
  rw [hz1] at h
  simpa using h
theorem set_at {w : World} {g o : Nat} {arr : Array Value} {t : TypeId} {x : Value} (h : w.heap[g]? = some (.cells arr t (0, 0))) : (w.setCell ⟨g, o, none⟩ x).heap[g]? = some (.cells (arr.setIfInBounds o x) t (0, 0)) := heap_setCell_same w g o arr t x h
theorem cell_of {w : World} {g o : Nat} {arr : Array Value} {t : TypeId} (h : w.heap[g]? = some (.cells arr t (0, 0))) : w.cell? ⟨g, o, none⟩ = arr[o]? := by simp [World.cell?, h]
theorem free_of {w : World} {g : Nat} {arr : Array Value} {t : TypeId} (h : w.heap[g]? = some (.cells arr t (0, 0))) (o : Nat) : w.frozen? ⟨g, o, none⟩ = false := by simp [World.frozen?, h]
set_option maxHeartbeats 1600000 in
set_option maxRecDepth 100000 in
theorem copiesI_any (v : Value) (l : List Int) (w : World) (S : Nat → Prop) (h : IntsAt w S v l) (hs : l.length * 8 ≤ MaxRow) :
    Calls Tryz.prog 283 #[v, .func (.func 284) #[] #[]] w fun e w' => ∃ u, e = .returned u ∧ IntsAt w' (fun b => w.heap.size ≤ b) u l ∧ Below w.heap.size w w' := by
  obtain ⟨a, c, rfl, hc, hnn, hr⟩ := h
  obtain ⟨n, hn⟩ : ∃ n, l.length = n := ⟨_, rfl⟩
  rw [hn] at hs hc ⊢
  by_cases h0 : n = 0
  · have hl : l = [] := List.eq_nil_of_length_eq_zero (by omega)
    have HL : Hid (l = []) := hl
    subst h0
    clear hr hl hn
    go_enter Tryz.func283, Tryz.ntmps283
    go_wp2_with fail
    go_ret
    exact ⟨_, rfl, by rw [HL.out]; exact RowAt.nil _ _ _ _, Below.refl _ _⟩
  · obtain ⟨b, o, rfl, hS, hlt, hx⟩ : ∃ b o, a = some ⟨b, o, none⟩ ∧ S b ∧ b < w.heap.size ∧ ∀ i x, l[i]? = some x → inE w b (o + i * 1) x := by
      rcases hr with h | h
      · rw [h] at hn; simp at hn; omega
      · exact h
    obtain ⟨M, hM, hmk⟩ := make_any Tryz.underlying77 Tryz.infoInt n hs (by unfold MaxRow at *; omega)
    have hz : ((n : Int) == 0) = false := by simp; omega
    have HX : Hid (∀ i x, l[i]? = some x → inE w b (o + i * 1) x) := hx
    have HN : Hid (l.length = n) := hn
    have HM : Hid (M.size = n * 1) := hM
    have hn1 : n ≤ 140737488355328 := by unfold MaxRow at hs; omega
    clear hx hr hn hM hnn
    go_enter Tryz.func283, Tryz.ntmps283
    go_wp2_with fail
    have HB1 : Hid (Below w.heap.size w (w.alloc (.cells M 3))) := (Below.refl _ _).alloc (Nat.le_refl _) _
    have HG1 : Hid ((w.alloc (.cells M 3)).heap[w.heap.size]? = some (.cells M 3 (0, 0))) := heap_alloc_new _ _
    clear hmk
    go_loopw [16] (fun i wr => ∃ q : Nat, i = .int .i64 q ∧ q ≤ n ∧ (∃ arr : Array Value, Hid (wr.heap[w.heap.size]? = some (.cells arr 3 (0, 0))) ∧ Hid (arr.size = n) ∧ Hid (∀ i x, i < q → l[i]? = some x → arr[i]? = some (.int .i64 x))) ∧ Hid (Below w.heap.size w wr)) (fun i _ => n - (intOf i).toNat)
    case atStart => exact ⟨0, rfl, Nat.zero_le _, ⟨M, HG1, by show _ = _; rw [HM.out]; omega, fun i x hi => absurd hi (Nat.not_lt_zero _)⟩, HB1⟩
    case round =>
      obtain ⟨q, rfl, hq, ⟨arr, HG, HA, HE⟩, HB⟩ := hrel
      by_cases hlt' : q < n
      · have hqi : (q : Int) < (n : Int) := by omega
        obtain ⟨x, hx⟩ : ∃ x, l[q]? = some x := ⟨l[q]'(by rw [HN.out]; exact hlt'), List.getElem?_eq_getElem _⟩
        have c0 : wr.cell? ⟨b, o + q, none⟩ = some (.int .i64 x) := by
          have := HX.out q x hx
          unfold inE at this
          rw [Nat.mul_one] at this
          rw [HB.out.cell (p := ⟨b, o + q, none⟩) hlt]
          exact this
        have f0 := free_of HG.out
        have c1 : ∃ y, wr.cell? ⟨w.heap.size, q, none⟩ = some y := ⟨arr[q]'(by rw [HA.out]; exact hlt'), by rw [cell_of HG.out]; exact Array.getElem?_eq_getElem _⟩
        obtain ⟨y, c1⟩ := c1
        go_wp2_with fail
        refine Calls.mono (id_any x _) ?_
        rintro e w2 ⟨rfl, rfl⟩
        go_wp2_with fail
        go_roundw
        case rel =>
          refine ⟨q + 1, by go_num, by omega, ⟨arr.setIfInBounds q (.int .i64 x), set_at HG.out, by show _ = _; rw [Array.size_setIfInBounds]; exact HA.out, ?_⟩, HB.out.setCell (Nat.le_refl _) _⟩
          intro i z hi hz
          by_cases he : i = q
          · subst he
            rw [hx] at hz
            cases hz
            rw [Array.getElem?_setIfInBounds_self]
            simp [HA.out, hlt']
          · rw [Array.getElem?_setIfInBounds_ne (Ne.symm he)]
            exact HE.out i z (by omega) hz
        case measure => simp [intOf]; omega
      · obtain rfl : q = n := by omega
        go_wp2_with fail
        go_ret
        refine ⟨.slice (some ⟨w.heap.size, 0, none⟩) q q, rfl, ⟨some ⟨w.heap.size, 0, none⟩, q, by rw [HN.out], by rw [HN.out]; exact Nat.le_refl _, (fun e => by cases e), .inr ⟨w.heap.size, 0, rfl, Nat.le_refl _, lt_of_blk HG.out, fun i x hi => ?_⟩⟩, HB.out⟩
        unfold inE
        rw [cell_of HG.out, show 0 + i * 1 = i by omega]
        exact HE.out i x (by rw [← HN.out]; exact (List.getElem?_eq_some_iff.1 hi).1) hi
end Go.Proofs.YtjcnigffpamcgaaGreatDoor
