/-
  PlaceLine: the walk and the row.
-/
import Derived.Test.YtblhenblibdjoaaLine
import Derived.WalkKit
import Derived.ProofKit
import Derived.OpenShut
import Derived.ShutString
namespace Go.Proofs.Ytblhenblibdjoaa.placeLine
open Go.ChangeShapes Go.WideShapes Go.ChangeAt Go.RowKit
open Go.ChangeMaps (open_string shut_string)
set_option linter.unusedVariables false

theorem own : ownKnob Try.prog.godebug = none := by kernel_rfl

theorem same (a c : ByteArray) (y : Int) (hx : O a a = 0) (hy : O a c = y) (ha : a.size ≤ maxLen) (hc : c.size ≤ maxLen) (w : World) (h : y = -1 ∨ y = 0 ∨ y = 1) :
    Calls Try.prog 3 #[.string a, .string a, .string c] w fun e w' => e = .returned (.bool true) ∧ Grown w w' := by
  rcases h with rfl | rfl | rfl
  all_goals (
    go_enter Try.func3, Try.ntmps3
    go_wp2_with (first | (go_at_call 5; refine (order_O _ _ (by first | assumption | decide +kernel) (by first | assumption | decide +kernel) _).mono ?_; rintro e w' ⟨rfl, m, rfl⟩))
    go_ret
    exact ⟨rfl, Grown.refl _⟩)

theorem less (a b c : ByteArray) (x y z : Int) (hx : O a b = x) (hy : O b c = y) (hz : O a c = z) (hr : O b a = -x) (hne : (a.toList == b.toList) = false) (ha : a.size ≤ maxLen) (hb : b.size ≤ maxLen) (hc : c.size ≤ maxLen) (w : World)
    (h : (x = -1 ∧ y = 0 ∧ z = -1) ∨ (x = -1 ∧ y = -1 ∧ z = -1)) :
    Calls Try.prog 3 #[.string a, .string b, .string c] w fun e w' => e = .returned (.bool true) ∧ Grown w w' := by
  rcases h with ⟨rfl, rfl, rfl⟩ | ⟨rfl, rfl, rfl⟩
  all_goals (
    go_enter Try.func3, Try.ntmps3
    go_wp2_with (first | (go_at_call 5; refine (order_O _ _ (by first | assumption | decide +kernel) (by first | assumption | decide +kernel) _).mono ?_; rintro e w' ⟨rfl, m, rfl⟩))
    go_ret
    exact ⟨rfl, Grown.refl _⟩)

theorem more (a b c : ByteArray) (x y z : Int) (hx : O a b = x) (hy : O b c = y) (hz : O a c = z) (hr : O b a = -x) (hne : (a.toList == b.toList) = false) (ha : a.size ≤ maxLen) (hb : b.size ≤ maxLen) (hc : c.size ≤ maxLen) (w : World)
    (h : (x = 1 ∧ y = 0 ∧ z = 1) ∨ (x = 1 ∧ y = 1 ∧ z = 1)) :
    Calls Try.prog 3 #[.string a, .string b, .string c] w fun e w' => e = .returned (.bool true) ∧ Grown w w' := by
  rcases h with ⟨rfl, rfl, rfl⟩ | ⟨rfl, rfl, rfl⟩
  all_goals (
    go_enter Try.func3, Try.ntmps3
    go_wp2_with (first | (go_at_call 5; refine (order_O _ _ (by first | assumption | decide +kernel) (by first | assumption | decide +kernel) _).mono ?_; rintro e w' ⟨rfl, m, rfl⟩))
    go_ret
    exact ⟨rfl, Grown.refl _⟩)

theorem lessMore (a b c : ByteArray) (x y z : Int) (hx : O a b = x) (hy : O b c = y) (hz : O a c = z) (hr : O b a = -x) (hne : (a.toList == b.toList) = false) (ha : a.size ≤ maxLen) (hb : b.size ≤ maxLen) (hc : c.size ≤ maxLen) (w : World)
    (h : (x = -1 ∧ y = 1 ∧ z = -1) ∨ (x = -1 ∧ y = 1 ∧ z = 0) ∨ (x = -1 ∧ y = 1 ∧ z = 1)) :
    Calls Try.prog 3 #[.string a, .string b, .string c] w fun e w' => e = .returned (.bool true) ∧ Grown w w' := by
  rcases h with ⟨rfl, rfl, rfl⟩ | ⟨rfl, rfl, rfl⟩ | ⟨rfl, rfl, rfl⟩
  all_goals (
    go_enter Try.func3, Try.ntmps3
    go_wp2_with (first | (go_at_call 5; refine (order_O _ _ (by first | assumption | decide +kernel) (by first | assumption | decide +kernel) _).mono ?_; rintro e w' ⟨rfl, m, rfl⟩))
    go_ret
    exact ⟨rfl, Grown.refl _⟩)

theorem moreLess (a b c : ByteArray) (x y z : Int) (hx : O a b = x) (hy : O b c = y) (hz : O a c = z) (hr : O b a = -x) (hne : (a.toList == b.toList) = false) (ha : a.size ≤ maxLen) (hb : b.size ≤ maxLen) (hc : c.size ≤ maxLen) (w : World)
    (h : (x = 1 ∧ y = -1 ∧ z = -1) ∨ (x = 1 ∧ y = -1 ∧ z = 0) ∨ (x = 1 ∧ y = -1 ∧ z = 1)) :
    Calls Try.prog 3 #[.string a, .string b, .string c] w fun e w' => e = .returned (.bool true) ∧ Grown w w' := by
  rcases h with ⟨rfl, rfl, rfl⟩ | ⟨rfl, rfl, rfl⟩ | ⟨rfl, rfl, rfl⟩
  all_goals (
    go_enter Try.func3, Try.ntmps3
    go_wp2_with (first | (go_at_call 5; refine (order_O _ _ (by first | assumption | decide +kernel) (by first | assumption | decide +kernel) _).mono ?_; rintro e w' ⟨rfl, m, rfl⟩))
    go_ret
    exact ⟨rfl, Grown.refl _⟩)

theorem walk (a0 : ByteArray) (a1 : ByteArray) (a2 : ByteArray) (w0 : a0.size ≤ maxLen) (w1 : a1.size ≤ maxLen) (w2 : a2.size ≤ maxLen) (w : World) :
    Calls Try.prog 3 #[.string a0, .string a1, .string a2] w fun e w' => e = .returned (.bool true) ∧ Grown w w' := by
  have hN : a0 ≠ a1 → (a0.toList == a1.toList) = false := fun h => by
    rw [beq_eq_false_iff_ne]
    intro e
    apply h
    rw [ByteArray.toList_eq, ByteArray.toList_eq] at e
    exact ByteArray.ext (Array.toList_inj.mp e)
  have hR := O_range a0 a2
  rcases O_three a0 a1 a2 with ⟨h1, h2, h3⟩ | ⟨h1, h2, h3, h4⟩ | ⟨h1, h2, h3, h4⟩ | ⟨h1, h2, h3⟩ | ⟨h1, h2, h3⟩
  · subst h2
    exact same a0 a2 _ h1 rfl w0 w2 w hR
  · exact less a0 a1 a2 _ _ _ rfl rfl rfl (O_anti _ _) (hN h2) w0 w1 w2 w (by rcases h3 with h3 | h3 <;> simp [h1, h3, h4])
  · exact more a0 a1 a2 _ _ _ rfl rfl rfl (O_anti _ _) (hN h2) w0 w1 w2 w (by rcases h3 with h3 | h3 <;> simp [h1, h3, h4])
  · exact lessMore a0 a1 a2 _ _ _ rfl rfl rfl (O_anti _ _) (hN h2) w0 w1 w2 w (by simpa [h1, h3] using hR)
  · exact moreLess a0 a1 a2 _ _ _ rfl rfl rfl (O_anti _ _) (hN h2) w0 w1 w2 w (by simpa [h1, h3] using hR)

set_option maxRecDepth 100000 in
theorem lifted (os : Os) (started : os.Started) (H : Type) (enc : TypeId × Value → H) :
    ReturnsInHanded {} Try.checked os 3 .any (Rows.placeLineSpec.pre6 enc Try.prog Try.f3 Rows.placeLineRow.domain false) (Rows.placeLineSpec.post enc Try.prog Try.f3 false true false false) := by
  refine returnsInHanded_of_change (C := Try.checked) own started (by kernel_rfl) Try.func3
    (ChangeSpec.witness6 (enc := enc) (C := Try.checked) false ⟨#[], #[.string ByteArray.empty, .string ByteArray.empty, .string ByteArray.empty], []⟩ 8 (by kernel_rfl) (by kernel_rfl) (by kernel_rfl) (by kernel_rfl)) ?_
  intro W base args ds gs before hval0 hW hcnd _
  have hval : ∀ (j : Nat) t v, Try.f3.params[j]? = some t → args[j]? = some v → Value.okWide Try.prog W .any base t v := hval0
  have hW' := hW
  obtain ⟨p, q, hA0, hV, rfl, hfz, hnd⟩ := hW
  have hA : DataW.TrodAll enc Try.prog W 0 (fun _ => true) true Try.f3.params.toList args.toList ds p := hA0
  rw [Try.params3] at hA hval
  obtain ⟨v0, vs0, d0, ds0, p0, q0, hargs, rfl, rfl, h0, r0⟩ := trodAll_cons hA
  obtain ⟨v1, vs1, d1, ds1, p1, q1, rfl, rfl, rfl, h1, r1⟩ := trodAll_cons r0
  obtain ⟨v2, vs2, d2, ds2, p2, q2, rfl, rfl, rfl, h2, r2⟩ := trodAll_cons r1
  obtain ⟨rfl, rfl, rfl⟩ := trodAll_nil r2
  obtain rfl : args = #[v0, v1, v2] := by cases args; simp_all
  obtain ⟨rfl, rfl⟩ := trodVars_none hV
  obtain ⟨a0, rfl, rfl, rfl, w0⟩ := open_string Try.underlying9 (hval 0 9 v0 rfl rfl) h0
  obtain ⟨a1, rfl, rfl, rfl, w1⟩ := open_string Try.underlying9 (hval 1 9 v1 rfl rfl) h1
  obtain ⟨a2, rfl, rfl, rfl, w2⟩ := open_string Try.underlying9 (hval 2 9 v2 rfl rfl) h2
  clear hA0 hval0
  simp only [List.append_nil] at hW'
  refine (walk a0 a1 a2 w0 w1 w2 W).mono fun e W' ⟨he, hg⟩ => ?_
  subst he
  exact ⟨_, rfl, post_of_same (pa := []) (pv := []) hW' (fun _ _ _ => (trodAll_cons_mk (shut_bool Try.underlying4 _) trodAll_mk0)) (fun sp _ => (trodAll_cons_mk (shut_string Try.underlying9 w0) (trodAll_cons_mk (shut_string Try.underlying9 w1) (trodAll_cons_mk (shut_string Try.underlying9 w2) trodAll_mk0)))) (fun _ _ => rfl) rfl
    (hg.frame _) hg.2.1 (ok_one (by kernel_rfl) rfl (okWide_bool_mk Try.underlying4 _))⟩

theorem over : Rows.placeLineRow.holds Try.pinned (OpenSpec.ofChange Rows.placeLineSpec) :=
  OpenClaim.holds_of_wide 3 Try.f3 rfl rfl rfl rfl rfl rfl rfl ⟨rfl, rfl, rfl, rfl, rfl⟩ rfl rfl rfl rfl rfl (by kernel_rfl) Try.func3 (by kernel_rfl)
    (of_decide_eq_true (by kernel_rfl)) (by unfold Func.isWrapper; first | (rw [if_pos (by decide +kernel)]; kernel_rfl) | (rw [if_neg (by decide +kernel)]; exact ⟨rfl, rfl⟩))
    (fun os started H enc _ => lifted os started H enc)

theorem proved : Rows.PlaceLineSaid :=
  over
end Go.Proofs.Ytblhenblibdjoaa.placeLine
namespace Go.Proofs.Ytblhenblibdjoaa
theorem placeLine_holds : Rows.PlaceLineSaid := placeLine.proved
#print axioms placeLine_holds
end Go.Proofs.Ytblhenblibdjoaa
