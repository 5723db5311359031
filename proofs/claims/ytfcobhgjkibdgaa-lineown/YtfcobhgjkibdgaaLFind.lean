/-
  line: find.
-/
import Derived.Test.YtfcobhgjkibdgaaLMapS
namespace Go.Proofs.Ytfcobhgjkibdgaa
open Go.RowKit Go.Maps
set_option linter.unusedVariables false
set_option linter.unusedSimpArgs false

def pV (p : PcT) : Value := .agg #[.int .i64 p.m.f, .int .i64 p.m.t, .string p.m.b, .bool p.s]
def pZ : Value := .agg #[.int .i64 0, .int .i64 0, .string ⟨#[]⟩, .bool false]
theorem cells_2 {W : World} {b : Nat} {t : TypeId} {x0 x1 : Value} (h : W.heap[b]? = some (.cells #[x0, x1] t (0, 0))) : W.cell? ⟨b, 0, none⟩ = some x0 ∧ W.cell? ⟨b, 1, none⟩ = some x1 := by
  simp [World.cell?, h]
theorem zeroP (w : World) : (zeroValue 71).run Try.prog w = .ok pZ w := by simp [pZ]
/-- What find gives. -/
def fndV (L : LnT) (n : Int) : Value × Int := match fnd L.fl n with | some p => (pV p, 0) | none => (pZ, 160)
theorem old_alloc {w : World} {g : Nat} {o' : Obj} (o : Obj) (h : w.heap[g]? = some o') : (w.alloc o).heap[g]? = some o' := by
  have hl : g < w.heap.size := (Array.getElem?_eq_some_iff.1 h).1
  exact (((Below.refl w.heap.size w).alloc (Nat.le_refl _) o).block g hl).trans h
set_option maxHeartbeats 1600000 in
set_option maxRecDepth 100000 in
theorem find_map (b : Nat) (mv : Value) (L : LnT) (Km : Nat → Prop) (n : Int) (w : World) (hbox : w.heap[b]? = some (.cells #[mv, .int .i64 L.gv] 64 (0, 0))) (hF : FlM w Km mv L.fl pV) (hn : (Lit.int .i64 n).wf = true) :
    Calls Try.prog 30 #[.pointer (some ⟨b, 0, none⟩), .int .i64 n] w fun e w' => e = .returned (.tuple #[(fndV L n).1, .int .i64 (fndV L n).2]) ∧ Below w.heap.size w w' := by
  obtain ⟨c0, c1⟩ := cells_2 hbox
  have HLK : Hid (∀ w', Below w.heap.size w w' → _) := fun w' hb => (FlM.keep hF (Kp.of_below hb _)).look (tM := 62) Try.underlying62 (zeroP w') hn
  have hmm : ∃ o, mv = .map o := by rcases hF with ⟨h, _⟩ | ⟨mb, D, h, _⟩ <;> exact ⟨_, h⟩
  obtain ⟨mo, rfl⟩ := hmm
  obtain ⟨W, hW⟩ : ∃ z, w.alloc (.cells #[.int .i64 0, .int .i64 0, .string ⟨#[]⟩, .bool false] 71) = z := ⟨_, rfl⟩
  have hb1 : Below w.heap.size w W := by rw [← hW]; exact (Below.refl _ _).alloc (Nat.le_refl _) _
  have hlk := HLK.out W hb1
  have HW : Hid (_ = W) := hW
  have HB : Hid (Below w.heap.size w W) := hb1
  have hbl := lt_of_blk hbox
  have k0 : W.cell? ⟨b, 0, none⟩ = some (.map mo) := by rw [hb1.cell (p := ⟨b, 0, none⟩) hbl]; exact c0
  have HX : Hid (W.heap[w.heap.size]? = some (.cells #[.int .i64 0, .int .i64 0, .string ⟨#[]⟩, .bool false] 71 (0, 0))) := by show _ = _; rw [← hW]; exact heap_alloc_new _ _
  obtain ⟨x0, x1, x2, x3⟩ := cells_4 HX.out
  have fx := free_of HX.out
  have hlx := lt_of_blk HX.out
  clear hW hb1 c0 c1
  unfold atV at hlk
  cases hf : fnd L.fl n with
  | some p =>
    have e : fndV L n = (pV p, 0) := by unfold fndV; rw [hf]
    rw [e]
    rw [hf] at hlk
    simp only [Option.isSome_some, pV] at hlk
    clear hf e hbox hF
    go_enter Try.func30, Try.ntmps30
    go_upto_region 1 with fail
    rw [HW.out]
    go_wp2_with fail
    exact bodyPost_ret (results_cell_tmp rfl _ _ w.heap.size 71 _ (0, 0) _ _ rfl rfl (old_alloc _ (fill_4 HX.out)) Try.underlying71 rfl (by kernel_rfl)) rfl ⟨rfl, trans2 (fillB_4 HB.out (Nat.le_refl _)) ((Below.refl _ _).alloc (Nat.le_refl _) _)⟩
  | none =>
    have e : fndV L n = (pZ, 160) := by unfold fndV; rw [hf]
    rw [e]
    rw [hf] at hlk
    simp only [Option.isSome_none, pZ] at hlk
    clear hf e hbox hF
    go_enter Try.func30, Try.ntmps30
    go_upto_region 1 with fail
    rw [HW.out]
    go_wp2_with fail
    exact bodyPost_ret (results_cell_tmp rfl _ _ w.heap.size 71 _ (0, 0) _ _ rfl rfl (old_alloc _ (fill_4 HX.out)) Try.underlying71 rfl (by kernel_rfl)) rfl ⟨rfl, trans2 (fillB_4 HB.out (Nat.le_refl _)) ((Below.refl _ _).alloc (Nat.le_refl _) _)⟩
set_option maxHeartbeats 1600000 in
set_option maxRecDepth 100000 in
theorem find_nil (n : Int) (w : World) :
    Calls Try.prog 30 #[.pointer none, .int .i64 n] w fun e w' => e = .returned (.tuple #[pZ, .int .i64 160]) ∧ Below w.heap.size w w' := by
  obtain ⟨W, hW⟩ : ∃ z, w.alloc (.cells #[.int .i64 0, .int .i64 0, .string ⟨#[]⟩, .bool false] 71) = z := ⟨_, rfl⟩
  have HB : Hid (Below w.heap.size w W) := by rw [← hW]; exact (Below.refl _ _).alloc (Nat.le_refl _) _
  have HW : Hid (_ = W) := hW
  have HX : Hid (W.heap[w.heap.size]? = some (.cells #[.int .i64 0, .int .i64 0, .string ⟨#[]⟩, .bool false] 71 (0, 0))) := by show _ = _; rw [← hW]; exact heap_alloc_new _ _
  obtain ⟨x0, x1, x2, x3⟩ := cells_4 HX.out
  have fx := free_of HX.out
  clear hW
  unfold pZ
  go_enter Try.func30, Try.ntmps30
  go_upto_region 1 with fail
  rw [HW.out]
  go_wp2_with fail
  exact bodyPost_ret (results_cell_tmp rfl _ _ w.heap.size 71 _ (0, 0) _ _ rfl rfl (fill_4 HX.out) Try.underlying71 rfl (by kernel_rfl)) rfl ⟨rfl, fillB_4 HB.out (Nat.le_refl _)⟩
end Go.Proofs.Ytfcobhgjkibdgaa
