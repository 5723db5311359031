/-
  fan: New; a new hub is asked without a machine.
-/
import Derived.Test.YtjcnigffpamcgaaGreatDoorYNone
namespace Go.Proofs.YtjcnigffpamcgaaGreatDoor
open Go.RowKit Go.MuLone Go.Maps
set_option linter.unusedVariables false
set_option linter.unusedSimpArgs false

theorem results_cell_tmp {P : Program} {fn : Func} {p q : Tmp} {ty : TypeId} (h : fn.results = #[.cell p ty, .tmp q]) (tmps : Array Value) (w : World) (g : Nat) (t : TypeId) (cs : Array Value) (fr : Nat × Nat) (d : TypeDesc) (v : Value)
    (hp : tmps.getD p undef = .pointer (some ⟨g, 0, none⟩)) (hq : tmps.getD q undef = v) (hg : w.heap[g]? = some (.cells cs t fr))
    (hu : P.underlying ty = some d) (hd : (match d with | .struct _ | .array _ _ => true | _ => false) = true) (hi : (P.info? ty).map (·.size) = some cs.size) :
    (results fn tmps).run P w = .ok (.tuple #[.agg cs, v]) w := by
  have hp' : tmps[p]?.getD undef = .pointer (some ⟨g, 0, none⟩) := by simpa using hp
  have hq' : tmps[q]?.getD undef = v := by simpa using hq
  simp [results, h, hp', hq', asAddr, run_loadVar_row w g t ty cs fr d hg hu hd hi]
theorem results_cell {P : Program} {fn : Func} {p : Tmp} {ty : TypeId} (h : fn.results = #[.cell p ty]) (tmps : Array Value) (w : World) (g : Nat) (t : TypeId) (cs : Array Value) (fr : Nat × Nat) (d : TypeDesc)
    (hp : tmps.getD p undef = .pointer (some ⟨g, 0, none⟩)) (hg : w.heap[g]? = some (.cells cs t fr))
    (hu : P.underlying ty = some d) (hd : (match d with | .struct _ | .array _ _ => true | _ => false) = true) (hi : (P.info? ty).map (·.size) = some cs.size) :
    (results fn tmps).run P w = .ok (.agg cs) w := by
  have hp' : tmps[p]?.getD undef = .pointer (some ⟨g, 0, none⟩) := by simpa using hp
  simp [results, h, hp', asAddr, run_loadVar_row w g t ty cs fr d hg hu hd hi]
abbrev put_8 (w : World) (g : Nat) (x0 x1 x2 x3 x4 x5 x6 x7 : Value) : World := (((put_6 w g x0 x1 x2 x3 x4 x5).setCell ⟨g, 6, none⟩ x6).setCell ⟨g, 7, none⟩ x7)
theorem fill_8 {w : World} {g : Nat} {t : TypeId} {x0 x1 x2 x3 x4 x5 x6 x7 y0 y1 y2 y3 y4 y5 y6 y7 : Value} (h : w.heap[g]? = some (.cells #[y0, y1, y2, y3, y4, y5, y6, y7] t (0, 0))) : (put_8 w g x0 x1 x2 x3 x4 x5 x6 x7).heap[g]? = some (.cells #[x0, x1, x2, x3, x4, x5, x6, x7] t (0, 0)) := by
  have h0 := set_at (o := 0) (x := x0) h
  have h1 := set_at (o := 1) (x := x1) h0
  have h2 := set_at (o := 2) (x := x2) h1
  have h3 := set_at (o := 3) (x := x3) h2
  have h4 := set_at (o := 4) (x := x4) h3
  have h5 := set_at (o := 5) (x := x5) h4
  have h6 := set_at (o := 6) (x := x6) h5
  have h7 := set_at (o := 7) (x := x7) h6
  rw [h7]
  simp
theorem fillB_8 {B : Nat} {w0 w : World} {g : Nat} {x0 x1 x2 x3 x4 x5 x6 x7 : Value} (h : Below B w0 w) (hg : B ≤ g) : Below B w0 (put_8 w g x0 x1 x2 x3 x4 x5 x6 x7) := ((((((((h.setCell hg _).setCell hg _).setCell hg _).setCell hg _).setCell hg _).setCell hg _).setCell hg _).setCell hg _)
def newH (room keep floor : Int) : Int := if room < 1 ∨ 32 < room ∨ keep < 1 ∨ 64 < keep then 1 else if floor < 0 ∨ 2147483647 < floor then 3 else 0
theorem newH_cases (room keep floor : Int) : (newH room keep floor = 1 ∧ room < 1) ∨ (newH room keep floor = 1 ∧ ¬ room < 1 ∧ 32 < room) ∨ (newH room keep floor = 1 ∧ ¬ room < 1 ∧ ¬ 32 < room ∧ keep < 1) ∨ (newH room keep floor = 1 ∧ ¬ room < 1 ∧ ¬ 32 < room ∧ ¬ keep < 1 ∧ 64 < keep) ∨ (newH room keep floor = 3 ∧ ¬ room < 1 ∧ ¬ 32 < room ∧ ¬ keep < 1 ∧ ¬ 64 < keep ∧ floor < 0) ∨ (newH room keep floor = 3 ∧ ¬ room < 1 ∧ ¬ 32 < room ∧ ¬ keep < 1 ∧ ¬ 64 < keep ∧ ¬ floor < 0 ∧ 2147483647 < floor) ∨ (newH room keep floor = 0 ∧ ¬ room < 1 ∧ ¬ 32 < room ∧ ¬ keep < 1 ∧ ¬ 64 < keep ∧ ¬ floor < 0 ∧ ¬ 2147483647 < floor) := by
  unfold newH
  by_cases h1 : room < 1
  · simp [h1]
  · by_cases h2 : 32 < room
    · simp [h1, h2]
    · by_cases h3 : keep < 1
      · simp [h1, h2, h3]
      · by_cases h4 : 64 < keep
        · simp [h1, h2, h3, h4]
        · by_cases h5 : floor < 0
          · simp [h1, h2, h3, h4, h5]
          · by_cases h6 : 2147483647 < floor
            · simp [h1, h2, h3, h4, h5, h6]
            · simp [h1, h2, h3, h4, h5, h6]
theorem isStamp_any (v : Int) (b : Bool) (h : (b = true ∧ ¬ v < 0 ∧ ¬ 2147483647 < v) ∨ (b = false ∧ (v < 0 ∨ 2147483647 < v))) (w : World) : Calls Tryz.prog 52 #[.int .i64 v] w fun e w' => e = .returned (.bool b) ∧ w' = w := by
  rcases h with ⟨rfl, h1, h2⟩ | ⟨rfl, h⟩
  · have a : 0 ≤ v := by omega
    have c : v ≤ 2147483647 := by omega
    clear h1 h2
    go_enter Tryz.func52, Tryz.ntmps52
    go_wp2_with fail
    go_ret
    exact ⟨rfl, rfl⟩
  · by_cases h1 : v < 0
    · have a : ¬ 0 ≤ v := by omega
      clear h h1
      go_enter Tryz.func52, Tryz.ntmps52
      go_wp2_with fail
      go_ret
      exact ⟨rfl, rfl⟩
    · have a : 0 ≤ v := by omega
      have c : ¬ v ≤ 2147483647 := by omega
      clear h h1
      go_enter Tryz.func52, Tryz.ntmps52
      go_wp2_with fail
      go_ret
      exact ⟨rfl, rfl⟩
theorem trieNew_any (w : World) : Calls Tryz.prog 53 #[] w fun e w' => e = .returned (.pointer (some ⟨w.heap.size, 0, none⟩)) ∧ Below w.heap.size w w' := by
  go_enter Tryz.func53, Tryz.ntmps53
  go_wp2_with fail
  go_ret
  exact ⟨rfl, (Below.refl _ _).alloc (Nat.le_refl _) _⟩
theorem stateNew_any (w : World) : Calls Tryz.prog 14 #[] w fun e w' => e = .returned (.pointer (some ⟨w.heap.size, 0, none⟩)) ∧ Below w.heap.size w w' := by
  go_enter Tryz.func14, Tryz.ntmps14
  go_wp2_with fail
  go_ret
  exact ⟨rfl, (Below.refl _ _).alloc (Nat.le_refl _) _⟩
theorem numY_any (x : Int) (w : World) : Calls Tryz.prog 10 #[.int .i64 x] w fun e w' => e = .returned (.int .i64 x) ∧ w' = w := by
  go_enter Tryz.func10, Tryz.ntmps10
  go_wp2_with fail
  go_ret
  exact ⟨rfl, rfl⟩
set_option maxHeartbeats 1600000 in
theorem hubNew_no (room keep floor : Int) (w : World) (h : newH room keep floor ≠ 0) :
    Calls Tryz.prog 8 #[.int .i64 room, .int .i64 keep, .int .i64 floor] w fun e w' => e = .returned (.tuple #[.pointer none, .int .i64 (newH room keep floor)]) ∧ w' = w := by
  rcases newH_cases room keep floor with ⟨hz, h1⟩ | ⟨hz, h1, h2⟩ | ⟨hz, h1, h2, h3⟩ | ⟨hz, h1, h2, h3, h4⟩ | ⟨hz, h1, h2, h3, h4, h5⟩ | ⟨hz, h1, h2, h3, h4, h5, h6⟩ | ⟨hz, h1⟩
  case inr.inr.inr.inr.inr.inr => exact absurd hz h
  all_goals
    clear h
    rw [hz]
    clear hz
  case inr.inr.inr.inr.inl =>
    have HS : Hid _ := fun w => isStamp_any floor false (.inr ⟨rfl, .inl h5⟩) w
    go_enter Tryz.func8, Tryz.ntmps8
    go_wp2_with (first | (go_at_call 52; refine Calls.mono (HS.out _) ?_; rintro e w1 ⟨rfl, hw1⟩; subst hw1) | fail)
    go_ret2
    exact ⟨rfl, rfl⟩
  case inr.inr.inr.inr.inr.inl =>
    have HS : Hid _ := fun w => isStamp_any floor false (.inr ⟨rfl, .inr h6⟩) w
    go_enter Tryz.func8, Tryz.ntmps8
    go_wp2_with (first | (go_at_call 52; refine Calls.mono (HS.out _) ?_; rintro e w1 ⟨rfl, hw1⟩; subst hw1) | fail)
    go_ret2
    exact ⟨rfl, rfl⟩
  all_goals
    go_enter Tryz.func8, Tryz.ntmps8
    go_wp2_with fail
    go_ret2
    exact ⟨rfl, rfl⟩
set_option maxHeartbeats 1600000 in
theorem hubNew_ok (room keep floor : Int) (w : World) (h : newH room keep floor = 0) :
    Calls Tryz.prog 8 #[.int .i64 room, .int .i64 keep, .int .i64 floor] w fun e w' => ∃ H tr mb, e = .returned (.tuple #[.pointer (some ⟨H, 0, none⟩), .int .i64 0]) ∧ HubAt w' H tr mb room keep 0 floor ∧ Below w.heap.size w w' := by
  rcases newH_cases room keep floor with ⟨hz, h1⟩ | ⟨hz, h1, h2⟩ | ⟨hz, h1, h2, h3⟩ | ⟨hz, h1, h2, h3, h4⟩ | ⟨hz, h1, h2, h3, h4, h5⟩ | ⟨hz, h1, h2, h3, h4, h5, h6⟩ | ⟨hz, h1, h2, h3, h4, h5, h6⟩
  case inr.inr.inr.inr.inr.inr =>
    have HS : Hid _ := fun w => isStamp_any floor true (.inl ⟨rfl, h5, h6⟩) w
    have HT : Hid _ := fun w => trieNew_any w
    have hmm := @run_makeMap Tryz.prog
    clear h hz
    go_enter Tryz.func8, Tryz.ntmps8
    go_wp2_with (first
      | (go_at_call 52; refine Calls.mono (HS.out _) ?_; rintro e w1 ⟨rfl, hw1⟩; subst hw1)
      | (go_at_call 53; refine Calls.mono (HT.out _) ?_; rintro e w2 ⟨rfl, hb2⟩; have HB2 : Hid _ := hb2; clear hb2)
      | fail)
    go_ret2
    refine ⟨_, _, _, rfl, ⟨heap_new' (by simp), World.ownsMap.alloc (World.ownsMap_made w2 Tryz.prog 3 rawY) _, by omega⟩, (HB2.out.alloc ?_ _).alloc ?_ _⟩
    · exact HB2.out.size
    · have := HB2.out.size; simp; omega
  all_goals (rw [h] at hz; cases hz)
abbrev rhV (a b c d : Int) : Value := .agg #[.int .i64 a, .int .i64 b, .int .i64 c, .int .i64 d, .slice none 0 0, .slice none 0 0, .bool false, .slice none 0 0]
theorem ref9New_any (w : World) : Calls Tryz.prog 54 #[] w fun e w' => e = .returned (.agg #[.bool false, .slice none 0 0]) ∧ Below w.heap.size w w' := by
  go_enter Tryz.func54, Tryz.ntmps54
  go_wp2_with fail
  exact bodyPost_ret (results_cell rfl _ _ w.heap.size 30 _ (0, 0) _ rfl (heap_alloc_new _ _) Tryz.underlying30 rfl (by kernel_rfl)) rfl ⟨rfl, (Below.refl _ _).alloc (Nat.le_refl _) _⟩
set_option maxHeartbeats 1600000 in
theorem ref11New_any (room keep floor : Int) (w : World) :
    Calls Tryz.prog 9 #[.int .i64 room, .int .i64 keep, .int .i64 floor] w fun e w' => ∃ a b c d, e = .returned (.tuple #[rhV a b c d, .int .i64 (newH room keep floor)]) ∧ Below w.heap.size w w' := by
  rcases newH_cases room keep floor with ⟨hz, h1⟩ | ⟨hz, h1, h2⟩ | ⟨hz, h1, h2, h3⟩ | ⟨hz, h1, h2, h3, h4⟩ | ⟨hz, h1, h2, h3, h4, h5⟩ | ⟨hz, h1, h2, h3, h4, h5, h6⟩ | ⟨hz, h1, h2, h3, h4, h5, h6⟩
  all_goals
    rw [hz]
    clear hz
  case inr.inr.inr.inr.inr.inr =>
    have HT : Hid _ := fun w => ref9New_any w
    go_enter Tryz.func9, Tryz.ntmps9
    go_wp2_with (first
      | (go_at_call 54; refine Calls.mono (HT.out _) ?_; rintro e w2 ⟨rfl, hb2⟩
         have HB2 : Hid (Below w.heap.size w w2) := trans2 ((Below.refl _ _).alloc (Nat.le_refl _) _) hb2
         have HX2 : Hid (w2.heap[w.heap.size]? = some (.cells #[.int .i64 0, .int .i64 0, .int .i64 0, .int .i64 0, .slice none 0 0, .slice none 0 0, .bool false, .slice none 0 0] 32 (0, 0))) := kept_block hb2 (heap_alloc_new _ _)
         have hfr : ∀ o, w2.frozen? ⟨w.heap.size, o, none⟩ = false := fun o => by simp [World.frozen?, HX2.out]
         have hce : w2.cell? ⟨w.heap.size, 0, none⟩ = some (.int .i64 0) ∧ w2.cell? ⟨w.heap.size, 1, none⟩ = some (.int .i64 0) ∧ w2.cell? ⟨w.heap.size, 2, none⟩ = some (.int .i64 0) ∧ w2.cell? ⟨w.heap.size, 3, none⟩ = some (.int .i64 0) ∧ w2.cell? ⟨w.heap.size, 4, none⟩ = some (.slice none 0 0) ∧ w2.cell? ⟨w.heap.size, 5, none⟩ = some (.slice none 0 0) ∧ w2.cell? ⟨w.heap.size, 6, none⟩ = some (.bool false) ∧ w2.cell? ⟨w.heap.size, 7, none⟩ = some (.slice none 0 0) := by simp [World.cell?, HX2.out]
         obtain ⟨e0, e1, e2, e3, e4, e5, e6, e7⟩ := hce
         clear hb2)
      | fail)
    exact bodyPost_ret (results_cell_tmp rfl _ _ w.heap.size 32 _ (0, 0) _ _ rfl rfl (fill_8 HX2.out) Tryz.underlying32 rfl (by kernel_rfl)) rfl ⟨_, _, _, _, rfl, fillB_8 HB2.out (Nat.le_refl _)⟩
  all_goals
    go_enter Tryz.func9, Tryz.ntmps9
    go_wp2_with fail
    first | exact bodyPost_ret (results_cell_tmp rfl _ _ w.heap.size 32 _ (0, 0) _ _ rfl rfl (heap_alloc_new _ _) Tryz.underlying32 rfl (by kernel_rfl)) rfl ⟨_, _, _, _, rfl, (Below.refl _ _).alloc (Nat.le_refl _) _⟩ | exact bodyPost_ret (results_cell_tmp rfl _ _ w.heap.size 32 _ (0, 0) _ _ rfl rfl (heap_alloc_new _ _) Tryz.underlying32 rfl (by kernel_rfl)) rfl ⟨⟨_, _, _, _, rfl⟩, (Below.refl _ _).alloc (Nat.le_refl _) _⟩
end Go.Proofs.YtjcnigffpamcgaaGreatDoor
