/-
  heraldref10: New, follows.
-/
import Derived.Test.YtlidkieljiebiaaQRefP
namespace Go.Proofs.Ytlidkieljiebiaa
open Go.RowKit
set_option linter.unusedVariables false
set_option linter.unusedSimpArgs false

theorem results_cell_tmp {P : Program} {fn : Func} {p q : Tmp} {ty : TypeId} (h : fn.results = #[.cell p ty, .tmp q]) (tmps : Array Value) (w : World) (g : Nat) (t : TypeId) (cs : Array Value) (fr : Nat × Nat) (d : TypeDesc) (v : Value)
    (hp : tmps.getD p undef = .pointer (some ⟨g, 0, none⟩)) (hq : tmps.getD q undef = v) (hg : w.heap[g]? = some (.cells cs t fr))
    (hu : P.underlying ty = some d) (hd : (match d with | .struct _ | .array _ _ => true | _ => false) = true) (hi : (P.info? ty).map (·.size) = some cs.size) :
    (results fn tmps).run P w = .ok (.tuple #[.agg cs, v]) w := by
  have hp' : tmps[p]?.getD undef = .pointer (some ⟨g, 0, none⟩) := by simpa using hp
  have hq' : tmps[q]?.getD undef = v := by simpa using hq
  simp [results, h, hp', hq', asAddr, run_loadVar_row w g t ty cs fr d hg hu hd hi]
/-- The document's queue as a value. -/
abbrev rqV (room last : Int) (v : Value) : Value := .agg #[.int .i64 room, .int .i64 last, v]
set_option maxHeartbeats 1600000 in
theorem refNew_ok (r x : Int) (w : World) (h : newQ r x = 0) :
    Calls Try.prog 26 #[.int .i64 r, .int .i64 x] w fun e w' => e = .returned (.tuple #[rqV r x (.slice none 0 0), .int .i64 0]) ∧ Below w.heap.size w w' := by
  have hh : ¬ (r < 1 ∨ 32 < r) ∧ ¬ (x < 0 ∨ 2147483647 < x) := by
    unfold newQ at h
    split at h
    · cases h
    · split at h
      · cases h
      · exact ⟨by assumption, by assumption⟩
  have a0 : ¬ r < 1 := fun h => hh.1 (.inl h)
  have a1 : ¬ 32 < r := fun h => hh.1 (.inr h)
  have b0 : ¬ x < 0 := fun h => hh.2 (.inl h)
  have b1 : ¬ 2147483647 < x := fun h => hh.2 (.inr h)
  clear h hh
  go_enter Try.func26, Try.ntmps26
  go_wp2_with fail
  exact bodyPost_ret (results_cell_tmp rfl _ _ w.heap.size 67 _ (0, 0) _ (.int .i64 0) rfl rfl (heap_alloc_new _ _) Try.underlying67 rfl (by kernel_rfl)) rfl ⟨rfl, (Below.refl _ _).alloc (Nat.le_refl _) _⟩
set_option maxHeartbeats 1600000 in
theorem refNew_no (r x : Int) (w : World) (h : newQ r x ≠ 0) :
    Calls Try.prog 26 #[.int .i64 r, .int .i64 x] w fun e w' => e = .returned (.tuple #[rqV 0 0 (.slice none 0 0), .int .i64 (newQ r x)]) ∧ Below w.heap.size w w' := by
  have hcase : (r < 1 ∧ newQ r x = 1) ∨ (¬ r < 1 ∧ 32 < r ∧ newQ r x = 1) ∨ (¬ r < 1 ∧ ¬ 32 < r ∧ x < 0 ∧ newQ r x = 3) ∨ (¬ r < 1 ∧ ¬ 32 < r ∧ ¬ x < 0 ∧ 2147483647 < x ∧ newQ r x = 3) := by
    unfold newQ at h ⊢
    by_cases h1 : r < 1
    · exact .inl ⟨h1, if_pos (.inl h1)⟩
    · by_cases h2 : 32 < r
      · exact .inr (.inl ⟨h1, h2, if_pos (.inr h2)⟩)
      · rw [if_neg (by omega)] at h ⊢
        by_cases h3 : x < 0
        · exact .inr (.inr (.inl ⟨h1, h2, h3, if_pos (.inl h3)⟩))
        · by_cases h4 : 2147483647 < x
          · exact .inr (.inr (.inr ⟨h1, h2, h3, h4, if_pos (.inr h4)⟩))
          · rw [if_neg (by omega)] at h
            exact absurd rfl h
  clear h
  rcases hcase with ⟨h1, hz⟩ | ⟨h1, h2, hz⟩ | ⟨h1, h2, h3, hz⟩ | ⟨h1, h2, h3, h4, hz⟩
  all_goals
    rw [hz]
    clear hz
    go_enter Try.func26, Try.ntmps26
    go_wp2_with fail
    exact bodyPost_ret (results_cell_tmp rfl _ _ w.heap.size 67 _ (0, 0) _ _ rfl rfl (heap_alloc_new _ _) Try.underlying67 rfl (by kernel_rfl)) rfl ⟨rfl, (Below.refl _ _).alloc (Nat.le_refl _) _⟩
def folQ (last : Nat) (st : Int) : Int := if 2147483647 < st then 3 else if st ≤ last then 100 else 0
theorem may_fol (last : Nat) (st : Int) (says : Bool) : mayQ last st says = if folQ last st ≠ 0 then folQ last st else if says = true then 0 else 100 := by
  unfold mayQ folQ
  by_cases h1 : 2147483647 < st
  · simp [h1]
  · by_cases h2 : st ≤ (last : Int)
    · simp [h1, h2]
    · cases says <;> simp [h1, h2]
set_option maxHeartbeats 1600000 in
theorem follows_any (room : Int) (last : Nat) (v : Value) (st : Int) (w : World) :
    Calls Try.prog 71 #[rqV room last v, .int .i64 st] w fun e w' => e = .returned (.int .i64 (folQ last st)) ∧ Below w.heap.size w w' := by
  obtain ⟨c0, c1, c2⟩ := cells_3 (heap_alloc_new w (.cells #[.int .i64 room, .int .i64 last, v] 67))
  have HB : Hid (Below w.heap.size w (w.alloc (.cells #[.int .i64 room, .int .i64 last, v] 67))) := (Below.refl _ _).alloc (Nat.le_refl _) _
  by_cases h1 : 2147483647 < st
  · have HM : Hid (folQ last st = 3) := by show _ = _; unfold folQ; rw [if_pos h1]
    go_enter Try.func71, Try.ntmps71
    go_wp2_with fail
    go_ret
    exact ⟨by rw [HM.out]; rfl, HB.out⟩
  · by_cases h2 : st ≤ (last : Int)
    · have HM : Hid (folQ last st = 100) := by show _ = _; unfold folQ; rw [if_neg h1, if_pos h2]
      go_enter Try.func71, Try.ntmps71
      go_wp2_with fail
      go_ret
      exact ⟨by rw [HM.out]; rfl, HB.out⟩
    · have HM : Hid (folQ last st = 0) := by show _ = _; unfold folQ; rw [if_neg h1, if_neg h2]
      go_enter Try.func71, Try.ntmps71
      go_wp2_with fail
      go_ret
      exact ⟨by rw [HM.out]; rfl, HB.out⟩
end Go.Proofs.Ytlidkieljiebiaa
