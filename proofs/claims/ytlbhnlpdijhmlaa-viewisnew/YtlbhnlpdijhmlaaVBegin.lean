/-
  view: begins.
-/
import Derived.Test.YtlbhnlpdijhmlaaVDid
namespace Go.Proofs.Ytlbhnlpdijhmlaa
open Go.RowKit
set_option linter.unusedVariables false
set_option linter.unusedSimpArgs false

/-- A service whose blocks are all new. -/
structure Nw (At : World → (Nat → Prop) → SvT → Value → Prop) (w0 w : World) (K : Nat → Prop) (V : SvT) (p : Value) : Prop where
  at' : At w K V p
  below : Below w0.heap.size w0 w
  new : ∀ j, K j → w0.heap.size ≤ j
theorem Nw.call {At : World → (Nat → Prop) → SvT → Value → Prop} {w0 w w' : World} {K : Nat → Prop} {V V' : SvT} {p : Value} (h : Nw At w0 w K V p) (he : SvE At w K V' p w') : ∃ K', Nw At w0 w' K' V' p := by
  obtain ⟨K', h1, h2, h3⟩ := he
  refine ⟨K', h1, ?_, fun j hj => (h3 j hj).elim (h.new j) (fun hh => Nat.le_trans h.below.size hh)⟩
  exact ⟨h2.os.trans h.below.os, h2.tape.trans h.below.tape, h2.output.trans h.below.output, Nat.le_trans h.below.size h2.size, fun j hj => by rw [h2.block j (Nat.lt_of_lt_of_le hj h.below.size) (fun e => by have := h.new j e; omega)]; exact h.below.block j hj⟩
theorem Nw.on {At : World → (Nat → Prop) → SvT → Value → Prop} (sv : Serves At) {w0 w w' : World} {K : Nat → Prop} {V : SvT} {p : Value} (h : Nw At w0 w K V p) (hb : Below w.heap.size w w') : Nw At w0 w' K V p :=
  ⟨sv.keep h.at' (Kp.of_below hb _), trans2 h.below hb, h.new⟩
abbrev b1V : SvT := ⟨3, [⟨1, 1, 2⟩], true⟩
abbrev b2V : SvT := ⟨3, [⟨1, 1, 2⟩, ⟨2, 2, 3⟩], false⟩
theorem begins_facts : (newV 3).promC 2 3 = 121 ∧ (newV 3).prom 2 3 = newV 3 ∧ (newV 3).settC 1 1 = 0 ∧ (newV 3).sett 1 1 = b1V ∧ b1V.promC 2 3 = 0 ∧ b1V.prom 2 3 = b2V ∧ lastV b2V.l = ⟨2, 2, 3⟩ := by
  have h1 : (newV 3).promC 2 3 = 121 := by simp [newV, SvT.promC]
  have h2 : (newV 3).settC 1 1 = 0 := by simp [newV, SvT.settC, lastV]
  have h3 : b1V.promC 2 3 = 0 := by simp [b1V, SvT.promC, lastV]
  refine ⟨h1, ?_, h2, ?_, h3, ?_, by simp [lastV]⟩
  · unfold SvT.prom; rw [if_neg (by rw [h1]; decide)]
  · unfold SvT.sett; rw [if_pos h2]; simp [newV]
  · unfold SvT.prom; rw [if_pos h3]; simp [lastV]
set_option maxHeartbeats 6400000 in
set_option maxRecDepth 100000 in
theorem begins_any {At : World → (Nat → Prop) → SvT → Value → Prop} (sv : Serves At) (w : World) : Calls Try.prog 9 #[] w fun e w' => e = .returned (.bool true) ∧ Below w.heap.size w w' := by
  obtain ⟨f1, f2, f3, f4, f5, f6, f7⟩ := begins_facts
  have HN : Hid _ := sv.new_ok w 3 (by decide) (by decide)
  have HF : Hid _ := And.intro f1 (And.intro f2 (And.intro f3 (And.intro f4 (And.intro f5 (And.intro f6 f7)))))
  clear f1 f2 f3 f4 f5 f6 f7
  go_enter Try.func9, Try.ntmps9
  go_wp2_with fail
  refine Calls.mono HN.out ?_
  rintro e w1 ⟨b, K1, rfl, h1, h2, h3⟩
  have H1 : Hid (Nw At w w1 K1 (newV 3) (.pointer (some ⟨b, 0, none⟩))) := ⟨h1, h2, h3⟩
  clear h1 h2 h3
  go_wp2_with fail
  refine Calls.mono (sv.promote w1 K1 (newV 3) _ 2 3 H1.out.at') ?_
  rintro e w2 ⟨rfl, he⟩
  rw [HF.out.2.1] at he
  obtain ⟨K2, h2⟩ := H1.out.call he
  have H2 : Hid (Nw At w w2 K2 (newV 3) (.pointer (some ⟨b, 0, none⟩))) := h2
  rw [HF.out.1]
  clear he h2 H1
  go_wp2_with fail
  refine Calls.mono (sv.settle w2 K2 (newV 3) _ 1 1 H2.out.at') ?_
  rintro e w3 ⟨rfl, he⟩
  rw [HF.out.2.2.2.1] at he
  obtain ⟨K3, h3⟩ := H2.out.call he
  have H3 : Hid (Nw At w w3 K3 b1V (.pointer (some ⟨b, 0, none⟩))) := h3
  rw [HF.out.2.2.1]
  clear he h3 H2
  go_wp2_with fail
  refine Calls.mono (sv.promote w3 K3 b1V _ 2 3 H3.out.at') ?_
  rintro e w4 ⟨rfl, he⟩
  rw [HF.out.2.2.2.2.2.1] at he
  obtain ⟨K4, h4⟩ := H3.out.call he
  have H4 : Hid (Nw At w w4 K4 b2V (.pointer (some ⟨b, 0, none⟩))) := h4
  rw [HF.out.2.2.2.2.1]
  clear he h4 H3
  go_wp2_with fail
  refine Calls.mono (sv.now w4 K4 b2V _ H4.out.at') ?_
  rintro e w5 ⟨rfl, he⟩
  obtain ⟨K5, h5⟩ := H4.out.call he
  have H5 : Hid (Nw At w w5 K5 b2V (.pointer (some ⟨b, 0, none⟩))) := h5
  rw [HF.out.2.2.2.2.2.2]
  clear he h5 H4
  go_wp2_with fail
  refine Calls.mono (sv.settled w5 K5 b2V _ H5.out.at') ?_
  rintro e w6 ⟨rfl, he⟩
  obtain ⟨K6, h6⟩ := H5.out.call he
  have H6 : Hid (Below w.heap.size w w6) := h6.below
  clear he h6 H5
  go_wp2_with fail
  go_ret
  exact ⟨rfl, H6.out⟩
end Go.Proofs.Ytlbhnlpdijhmlaa
