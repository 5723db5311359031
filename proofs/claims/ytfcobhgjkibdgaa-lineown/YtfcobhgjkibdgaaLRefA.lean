/-
  heraldref16: find, Look, New, Numbers.
-/
import Derived.Test.YtfcobhgjkibdgaaLMem
namespace Go.Proofs.Ytfcobhgjkibdgaa
open Go.RowKit
set_option linter.unusedVariables false
set_option linter.unusedSimpArgs false

set_option maxHeartbeats 1600000 in
set_option maxRecDepth 100000 in
theorem refFind_any (l : List PcT) (gv : Nat) (no : Bool) (n : Int) (v : Value) (w : World) (h : FlAt w v l) (hl : l.length ≤ 256) :
    Calls Try.prog 49 #[lnV v gv no, .int .i64 n] w fun e w' => e = .returned (.int .i64 (fnI l n)) ∧ Below w.heap.size w w' := by
  obtain ⟨a, c, rfl, _⟩ := fl_form h
  obtain ⟨qn, hqn⟩ : ∃ z, l.length = z := ⟨_, rfl⟩
  have HFL : Hid (FlAt w (.slice a qn c) l) := by rw [← hqn]; exact h
  rw [hqn] at hl ⊢
  obtain ⟨W, hW⟩ : ∃ W, w.alloc (.cells #[.slice a qn c, .int .i64 gv, .bool no] 56) = W := ⟨_, rfl⟩
  have hA : W.heap[w.heap.size]? = some (.cells #[.slice a qn c, .int .i64 gv, .bool no] 56 (0, 0)) := by rw [← hW]; exact heap_alloc_new _ _
  have hb : Below w.heap.size w W := by rw [← hW]; exact (Below.refl _ _).alloc (Nat.le_refl _) _
  have HW : Hid (w.alloc (.cells #[.slice a qn c, .int .i64 gv, .bool no] 56) = W) := hW
  have HB : Hid (Below w.heap.size w W) := hb
  have HF2 : Hid (FlAt W (.slice a qn c) l) := owns_below HFL.out hb
  have HQ : Hid (l.length = qn) := hqn
  obtain ⟨c0, c1, c2⟩ := cells_3 hA
  clear hW hA hb hqn h
  go_enter Try.func49, Try.ntmps49
  go_upto_region 1 with fail
  rw [HW.out]
  go_wp2_with fail
  go_loopw [5] (fun i wr => ∃ q : Nat, i = .int .i64 q ∧ q ≤ qn ∧ wr = W ∧ Hid (∀ (j : Nat) (x : PcT), j < q → l[j]? = some x → (x.n : Int) ≠ n)) (fun i _ => qn - (intOf i).toNat)
  case atStart => exact ⟨0, rfl, Nat.zero_le _, by trivial, fun j x hj => absurd hj (Nat.not_lt_zero _)⟩
  case round =>
    obtain ⟨q, rfl, hq, hw, HN⟩ := hrel
    subst hw
    by_cases hlt : q < qn
    · have hqi : (q : Int) < (qn : Int) := by omega
      obtain ⟨x, hx⟩ : ∃ x, l[q]? = some x := ⟨l[q]'(by rw [HQ.out]; exact hlt), List.getElem?_eq_getElem _⟩
      obtain ⟨g, cc, hv, hg, x0, _⟩ := fl_get HF2.out hx
      cases hv
      by_cases hn : (x.n : Int) = n
      · have hne : ((x.n : Int) == n) = true := by simpa using hn
        have HR : Hid (fnI l n = q) := (fnI_at hx hn HN.out).1
        clear hx hn
        go_wp2_with fail
        go_ret
        exact ⟨by rw [HR.out]; rfl, HB.out⟩
      · have hne : ((x.n : Int) == n) = false := by simpa using hn
        have HN2 : Hid (∀ (j : Nat) (y : PcT), j < q + 1 → l[j]? = some y → (y.n : Int) ≠ n) := fun j y hj hy => by
          by_cases he : j = q
          · subst he; rw [hx] at hy; cases hy; exact hn
          · exact HN.out j y (by omega) hy
        clear hx hn
        go_wp2_with fail
        go_roundw
        case rel => exact ⟨q + 1, by go_num, by omega, by trivial, HN2⟩
        case measure => simp [intOf]; omega
    · obtain rfl : q = qn := by omega
      have hge : ¬ (q : Int) < (q : Int) := by omega
      have HR : Hid (fnI l n = -1) := (fnI_no (fun j y hy => HN.out j y (by rw [← HQ.out]; exact (List.getElem?_eq_some_iff.1 hy).1) hy)).1
      go_wp2_with fail
      go_ret
      exact ⟨by rw [HR.out]; rfl, HB.out⟩
/-- What Look answers. -/
def lookM (l : List PcT) (n : Int) : MsT × Int := match fnd l n with | some p => (p.m, 0) | none => (msZ, 160)
theorem msg_box {w : World} {g : Nat} {x0 x1 x2 : Value} {m : MsT} (h : w.heap[g]? = some (.cells #[x0, x1, x2] 23 (0, 0))) : (put_3 w g (.int .i64 m.f) (.int .i64 m.t) (.string m.b)).heap[g]? = some (.cells #[.int .i64 m.f, .int .i64 m.t, .string m.b] 23 (0, 0)) := fill_3 h
set_option maxHeartbeats 1600000 in
set_option maxRecDepth 100000 in
theorem refLook_any (l : List PcT) (gv : Nat) (no : Bool) (n : Int) (v : Value) (w : World) (h : FlAt w v l) (hl : l.length ≤ 256) :
    Calls Try.prog 44 #[lnV v gv no, .int .i64 n] w fun e w' => e = .returned (.tuple #[(lookM l n).1.val, .int .i64 (lookM l n).2]) ∧ Below w.heap.size w w' := by
  obtain ⟨a, c, rfl, _⟩ := fl_form h
  obtain ⟨qn, hqn⟩ : ∃ z, l.length = z := ⟨_, rfl⟩
  have HFL : Hid (FlAt w (.slice a qn c) l) := by rw [← hqn]; exact h
  have HQ : Hid (l.length = qn) := hqn
  rw [hqn] at hl ⊢
  obtain ⟨hA, hB, hbel⟩ := pair_blocks (w := w) (t := 56) (cs := #[.slice a qn c, .int .i64 gv, .bool no]) (t' := 23) (cs' := #[.int .i64 0, .int .i64 0, .string ⟨#[]⟩])
  obtain ⟨W, hW⟩ : ∃ W, ((w.alloc (.cells #[.slice a qn c, .int .i64 gv, .bool no] 56)).alloc (.cells #[.int .i64 0, .int .i64 0, .string ⟨#[]⟩] 23)) = W := ⟨_, rfl⟩
  rw [hW] at hA hB hbel
  have HW : Hid (_ = W) := hW
  have HA : Hid (W.heap[w.heap.size]? = some (.cells #[.slice a qn c, .int .i64 gv, .bool no] 56 (0, 0))) := hA
  have HB : Hid (W.heap[w.heap.size + 1]? = some (.cells #[.int .i64 0, .int .i64 0, .string ⟨#[]⟩] 23 (0, 0))) := hB
  have HBW : Hid (Below w.heap.size w W) := hbel
  have HF : Hid (∀ w', Below w.heap.size w w' → _) := fun w' hb => refFind_any l gv no n (.slice a qn c) w' (owns_below HFL.out hb) (by rw [HQ.out]; exact hl)
  obtain ⟨c0, c1, c2⟩ := cells_3 hA
  have hcase := fnd_cases l n
  clear hW hA hB hbel hqn h
  go_enter Try.func44, Try.ntmps44
  go_upto_region 1 with fail
  rw [HW.out]
  go_wp2_with fail
  refine Calls.mono (HF.out _ HBW.out) ?_
  rintro e w1 ⟨rfl, hb1⟩
  have HA1 : Hid _ := kept_block hb1 HA.out
  have HB1 : Hid (w1.heap[w.heap.size + 1]? = some (.cells #[.int .i64 0, .int .i64 0, .string ⟨#[]⟩] 23 (0, 0))) := kept_block hb1 HB.out
  have HBW1 : Hid (Below w.heap.size w w1) := trans2 HBW.out hb1
  obtain ⟨d0, d1, d2⟩ := cells_3 HA1.out
  obtain ⟨r0, r1, r2⟩ := cells_3 HB1.out
  have f1 := free_of HB1.out
  obtain ⟨g, hg⟩ : ∃ g, w.heap.size = g := ⟨_, rfl⟩
  have HG : Hid (w.heap.size = g) := hg
  rw [hg] at d0 d1 d2 r0 r1 r2 f1 HB1 ⊢
  clear hb1 hg c0 c1 c2
  rcases hcase with ⟨i, p, hp, hn, hI, hf, _⟩ | ⟨hI, hf, _⟩
  · have HL : Hid (lookM l n = (p.m, 0)) := by show _ = _; unfold lookM; rw [hf]
    obtain ⟨g5, cc, hv, hg5, x0, x1, x2, x3, x4⟩ := fl_get (owns_below HFL.out HBW1.out) hp
    have hi : (i : Int) < (l.length : Int) := by have := (List.getElem?_eq_some_iff.1 hp).1; omega
    cases hv
    have hi0 : ¬ (i : Int) < 0 := by omega
    rw [hI]
    clear hp hn hI hf
    go_wp2_with fail
    exact bodyPost_ret (results_cell_tmp rfl _ _ (g + 1) 23 _ (0, 0) _ _ rfl rfl (fill_3 HB1.out) Try.underlying23 rfl (by kernel_rfl)) rfl ⟨by rw [HL.out]; rfl, by rw [← HG.out]; exact fillB_3 HBW1.out (by rw [HG.out]; omega)⟩
  · have HL : Hid (lookM l n = (msZ, 160)) := by show _ = _; unfold lookM; rw [hf]
    rw [hI]
    clear hI hf
    go_wp2_with fail
    exact bodyPost_ret (results_cell_tmp rfl _ _ (g + 1) 23 _ (0, 0) _ _ rfl rfl (fill_3 HB1.out) Try.underlying23 rfl (by kernel_rfl)) rfl ⟨by rw [HL.out]; rfl, by rw [← HG.out]; exact fillB_3 HBW1.out (by rw [HG.out]; omega)⟩
set_option maxHeartbeats 1600000 in
theorem refNew_any (w : World) : Calls Try.prog 25 #[] w fun e w' => e = .returned (lnV (.slice none 0 0) 0 false) ∧ Below w.heap.size w w' := by
  have hA : (w.alloc (.cells #[.slice none 0 0, .int .i64 0, .bool false] 56)).heap[w.heap.size]? = some (.cells #[.slice none 0 0, .int .i64 0, .bool false] 56 (0, 0)) := heap_alloc_new _ _
  have hb : Below w.heap.size w (w.alloc (.cells #[.slice none 0 0, .int .i64 0, .bool false] 56)) := (Below.refl _ _).alloc (Nat.le_refl _) _
  obtain ⟨W, hW⟩ : ∃ W, w.alloc (.cells #[.slice none 0 0, .int .i64 0, .bool false] 56) = W := ⟨_, rfl⟩
  obtain ⟨g, hg⟩ : ∃ g, w.heap.size = g := ⟨_, rfl⟩
  rw [hW, hg] at hA
  rw [hW] at hb
  obtain ⟨c0, c1, c2⟩ := cells_3 hA
  have f := free_of hA
  have HA : Hid _ := hA
  have HB : Hid _ := hb
  have HW : Hid (_ = W) := hW
  have HG : Hid (w.heap.size = g) := hg
  clear hW hg hA hb
  go_enter Try.func25, Try.ntmps25
  go_upto_region 1 with fail
  rw [HW.out, HG.out]
  go_wp2_with fail
  exact bodyPost_ret (results_cell rfl _ _ g 56 _ (0, 0) _ rfl (fill_3 HA.out) Try.underlying56 rfl (by kernel_rfl)) rfl ⟨rfl, by rw [← HG.out]; exact fillB_3 HB.out (by rw [HG.out]; omega)⟩
end Go.Proofs.Ytfcobhgjkibdgaa
