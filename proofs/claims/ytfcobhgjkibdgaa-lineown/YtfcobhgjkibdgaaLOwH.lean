/-
  line: LineOwn.
-/
import Derived.Test.YtfcobhgjkibdgaaLOwG
import Derived.Test.YtfcobhgjkibdgaaLKnown
namespace Go.Proofs.Ytfcobhgjkibdgaa
open Go.RowKit Go.Maps
set_option linter.unusedVariables false
set_option linter.unusedSimpArgs false

set_option maxHeartbeats 3200000 in
set_option maxRecDepth 100000 in
theorem LineOwn_walk (v : Value) (l : List StL) (w : World) (h : StsAt w (fun b => b < w.heap.size) v l) (hwf : ∀ x ∈ l, (Lit.int .i64 x.n).wf = true) :
    Calls Try.prog 5 #[v] w fun e w' => e = .returned (.bool true) ∧ Below w.heap.size w w' := by
  have HL : Hid (StsAt w (fun b => b < w.heap.size) v l) := h
  have HWF : Hid (∀ x ∈ l, (Lit.int .i64 x.n).wf = true) := hwf
  obtain ⟨sa, sc, rfl, _⟩ := RowAt.form h
  obtain ⟨sn, hsn⟩ : ∃ z, l.length = z := ⟨_, rfl⟩
  rw [hsn] at HL ⊢
  clear h hwf hsn
  go_enter Try.func5, Try.ntmps5
  go_wp2_with fail
  refine Calls.mono (new_at w) ?_
  rintro e w1 ⟨b1, K1, rfl, h1, hb1, hn1⟩
  have H1 : Hid (AtL w1 K1 ln0 (.pointer (some ⟨b1, 0, none⟩)) ∧ Below w.heap.size w w1 ∧ ∀ j, K1 j → w.heap.size ≤ j) := ⟨h1, hb1, hn1⟩
  clear h1 hb1 hn1
  go_wp2_with fail
  refine Calls.mono (new_at w1) ?_
  rintro e w2 ⟨b2, K2, rfl, h2, hb2, hn2⟩
  have H2 : Hid (AtL w2 K2 ln0 (.pointer (some ⟨b2, 0, none⟩)) ∧ Below w1.heap.size w1 w2 ∧ ∀ j, K2 j → w1.heap.size ≤ j) := ⟨h2, hb2, hn2⟩
  clear h2 hb2 hn2
  go_wp2_with fail
  refine Calls.mono (new_at w2) ?_
  rintro e w3 ⟨b3, K3, rfl, h3, hb3, hn3⟩
  have H3 : Hid (AtL w3 K3 ln0 (.pointer (some ⟨b3, 0, none⟩)) ∧ Below w2.heap.size w2 w3 ∧ ∀ j, K3 j → w2.heap.size ≤ j) := ⟨h3, hb3, hn3⟩
  clear h3 hb3 hn3
  have HB3 : Hid (Below w.heap.size w w3) := trans2 (trans2 H1.out.2.1 H2.out.2.1) H3.out.2.1
  have HL3 : Hid (StsAt w3 (fun b => b < w.heap.size) (.slice sa sn sc) l) := StsAt.keep HL.out (Kp.of_below HB3.out _)
  have HS : Hid (w.heap.size ≤ w1.heap.size ∧ w1.heap.size ≤ w2.heap.size ∧ w2.heap.size ≤ w3.heap.size) := ⟨H1.out.2.1.size, H2.out.2.1.size, H3.out.2.1.size⟩
  have HLT1 : Hid (∀ j, K1 j → j < w1.heap.size) := H1.out.1.lt
  have HLT2 : Hid (∀ j, K2 j → j < w2.heap.size) := H2.out.1.lt
  have HMK : Hid _ := marked_any w3 K1 K2 (.pointer (some ⟨b1, 0, none⟩)) (.pointer (some ⟨b2, 0, none⟩)) (.slice sa sn sc) l (fun b => b < w.heap.size) (H1.out.1.keep (Kp.of_below (trans2 H2.out.2.1 H3.out.2.1) _)) (H2.out.1.keep (Kp.of_below H3.out.2.1 _)) (fun j h1 h2 => by have := HLT1.out j h1; have := H2.out.2.2 j h2; omega) HL3.out (fun j hj => ⟨fun h1 => by have := H1.out.2.2 j h1; omega, fun h2 => by have := H2.out.2.2 j h2; have := HS.out; omega⟩) HWF.out
  go_wp2_with fail
  refine Calls.mono HMK.out ?_
  rintro e w4 ⟨rfl, hc4⟩
  have HB4 : Hid (Below w.heap.size w w4) := HB3.out.trans (hc4.below HB3.out.size (fun k _ hk => by rcases hk with hk | hk; exact H1.out.2.2 k hk; exact Nat.le_trans HS.out.1 (H2.out.2.2 k hk)))
  have HHD : Hid _ := held_any w4 K3 (.pointer (some ⟨b3, 0, none⟩)) (.slice sa sn sc) l (fun b => b < w.heap.size) (H3.out.1.keep (Kp.of_chg hc4 (fun j _ h3 hk => by have := H3.out.2.2 j h3; rcases hk with hk | hk; (have := HLT1.out j hk; have := HS.out; omega); (have := HLT2.out j hk; omega)))) (StsAt.keep HL.out (Kp.of_below HB4.out _)) (fun j hj h3 => by have := H3.out.2.2 j h3; have := HS.out; omega) HWF.out
  clear hc4
  go_wp2_with fail
  refine Calls.mono HHD.out ?_
  rintro e w5 ⟨rfl, hc5⟩
  have HB5 : Hid (Below w.heap.size w w5) := HB4.out.trans (hc5.below HB4.out.size (fun k _ hk => by have := H3.out.2.2 k hk; have := HS.out; omega))
  clear hc5
  go_wp2_with fail
  refine Calls.mono (known_any lines w5) ?_
  rintro e w6 ⟨rfl, hb6⟩
  have HB6 : Hid (Below w.heap.size w w6) := HB5.out.trans (hb6.mono HB5.out.size)
  clear hb6
  go_wp2_with fail
  go_ret
  exact ⟨rfl, HB6.out⟩
end Go.Proofs.Ytfcobhgjkibdgaa
