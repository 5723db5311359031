/-
  view: tell, hear.
-/
import Derived.Test.YtlbhnlpdijhmlaaVSrv4
import Derived.Test.YtlbhnlpdijhmlaaVMap
namespace Go.Proofs.Ytlbhnlpdijhmlaa
open Go.RowKit Go.MuLone
set_option linter.unusedVariables false
set_option linter.unusedSimpArgs false

theorem hear_any (b : Nat) (x : Int) (V : SvT) (v : Value) (f k n : Int) (ns : List Value) (w : World) (h : SrvAt w b x V v) (he : V.l ≠ []) (hno : NoAt ns k n) :
    Calls Try.prog 43 #[.pointer (some ⟨b, 0, none⟩), .int .i64 f, .agg ns.toArray] w fun e w' => e = .returned (.slice none 0 0) ∧ SrvAt w' b x (V.sett n f) v ∧ Chg w w' (fun j => j = b) := by
  have hb : (w.alloc (.cells ns.toArray 47)).heap[w.heap.size]? = some (.cells ns.toArray 47 (0, 0)) := heap_alloc_new _ _
  have hB : Below w.heap.size w (w.alloc (.cells ns.toArray 47)) := (Below.refl _ _).alloc (Nat.le_refl _) _
  have hs := settle_any b x V v n f _ (h.below hB) he
  have hc1 : (w.alloc (.cells ns.toArray 47)).cell? ⟨w.heap.size, 1, none⟩ = some (.int .i64 n) := by have := range_of hb 1 _ hno.n; simpa using this
  obtain ⟨W, hW⟩ : ∃ W, w.alloc (.cells ns.toArray 47) = W := ⟨_, rfl⟩
  rw [hW] at hb hB hs hc1
  have HW : Hid (w.alloc (.cells ns.toArray 47) = W) := hW
  have HB : Hid (Below w.heap.size w W) := hB
  have HS : Hid _ := hs
  clear h he hno hb hB hs hW
  go_enter Try.func43, Try.ntmps43
  go_upto_region 1 with fail
  rw [HW.out]
  go_wp2_with fail
  refine Calls.mono HS.out ?_
  rintro e w1 ⟨rfl, h1, h2⟩
  have H1 : Hid (SrvAt w1 b x (V.sett n f) v) := h1
  have H2 : Hid (Chg W w1 (fun j => j = b)) := h2
  clear h1 h2
  go_wp2_with fail
  go_ret
  exact ⟨rfl, H1.out, (Chg.of_below HB.out _).trans H2.out⟩
set_option maxHeartbeats 3200000 in
theorem tell_any (b : Nat) (x : Int) (V : SvT) (v : Value) (f : Int) (ns : List Value) (w : World) (h : SrvAt w b x V v) (he : V.l ≠ []) :
    Calls Try.prog 42 #[.pointer (some ⟨b, 0, none⟩), .int .i64 f, .agg ns.toArray] w fun e w' => ∃ g, e = .returned (.slice (some ⟨g, 0, none⟩) 1 1) ∧ w'.heap[g]? = some (.cells (tellCs (lastV V.l)).toArray 47 (0, 0)) ∧ w.heap.size ≤ g ∧ Below w.heap.size w w' := by
  have hB : Below w.heap.size w (w.alloc (.cells ns.toArray 47)) := (Below.refl _ _).alloc (Nat.le_refl _) _
  have hs := now_any b x V v _ (h.below hB) he
  obtain ⟨t, ht⟩ : ∃ t, lastV V.l = t := ⟨_, rfl⟩
  rw [ht] at hs ⊢
  obtain ⟨W, hW⟩ : ∃ W, w.alloc (.cells ns.toArray 47) = W := ⟨_, rfl⟩
  rw [hW] at hB hs
  have HW : Hid (w.alloc (.cells ns.toArray 47) = W) := hW
  have HB : Hid (Below w.heap.size w W) := hB
  have HS : Hid _ := hs
  clear h he hB hs hW ht
  go_enter Try.func42, Try.ntmps42
  go_upto_region 1 with fail
  rw [HW.out]
  go_wp2_with fail
  refine Calls.mono HS.out ?_
  rintro e w1 ⟨rfl, h1⟩
  have H1 : Hid (Below w.heap.size w w1) := trans2 HB.out h1
  clear h1
  go_wp2_with fail
  go_ret
  exact ⟨_, rfl, heap_alloc_new _ _, H1.out.size, H1.out.alloc H1.out.size _⟩
end Go.Proofs.Ytlbhnlpdijhmlaa
