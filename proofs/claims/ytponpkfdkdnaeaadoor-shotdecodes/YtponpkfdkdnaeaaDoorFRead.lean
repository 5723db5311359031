/-
  shot: the reader.
-/
import Derived.Test.YtponpkfdkdnaeaaDoorCCheck
import Derived.Test.YtponpkfdkdnaeaaDoorWReadText
import Derived.Test.YtponpkfdkdnaeaaDoorSTurn
import Derived.WalkLawsBesides
namespace Go.Proofs.YtponpkfdkdnaeaaDoor
open Go.RowKit
set_option linter.unusedVariables false
set_option linter.unusedSimpArgs false

abbrev PN : List PanicEntry := [{ v := .iface 50 (.agg #[]), recovered := false }]
theorem must_true (w : World) : Calls Tryd.prog 11 #[.bool true] w fun e w' => e = .returned (.tuple #[]) ∧ w' = w := by
  go_enter Tryd.func11, Tryd.ntmps11
  go_wp2_with fail
  exact bodyPost_end (results_none rfl _ _ _) rfl ⟨rfl, rfl⟩
theorem must_false (w : World) : Calls Tryd.prog 11 #[.bool false] w fun e w' => e = .panicked PN ∧ w' = w := by
  go_enter Tryd.func11, Tryd.ntmps11
  go_wp2_with fail
  exact ⟨rfl, rfl, rfl⟩
/-- A reader that stands there. -/
abbrev RdAt (w : World) (br : Nat) (a : Option Addr) (n c : Nat) (at' : Int) : Prop := w.heap[br]? = some (.cells #[.slice a n c, .int .i64 at'] 37 (0, 0))
theorem cells_2 {W : World} {b : Nat} {t : TypeId} {x0 x1 : Value} (h : W.heap[b]? = some (.cells #[x0, x1] t (0, 0))) : W.cell? ⟨b, 0, none⟩ = some x0 ∧ W.cell? ⟨b, 1, none⟩ = some x1 := by
  simp [World.cell?, h]
theorem free_2 {W : World} {b : Nat} {t : TypeId} {x0 x1 : Value} (h : W.heap[b]? = some (.cells #[x0, x1] t (0, 0))) (o : Nat) : W.frozen? ⟨b, o, none⟩ = false := by
  simp [World.frozen?, h]
theorem Chg.drew {w w' : World} {S : Nat → Prop} (h : Chg w w' S) : Chg w w'.drew S := ⟨h.os, h.tape, h.output, h.size, h.block⟩
set_option maxHeartbeats 1600000 in
theorem rNumber_ok (br : Nat) (a : Option Addr) (c : Nat) (xs : List Int) (at' v nx : Int) (w : World) (h : RdAt w br a xs.length c at') (hx : Bys w a xs) (hb : Byt xs) (hm : xs.length ≤ 1000000) (hr : rdAny at' xs = (v, nx, 0)) :
    Calls Tryd.prog 17 #[.pointer (some ⟨br, 0, none⟩)] w fun e w' => e = .returned (.int .i64 v) ∧ RdAt w' br a xs.length c nx ∧ Chg w w' (fun j => j = br) := by
  have HR : Hid (∀ w', Below w.heap.size w w' → Calls Tryd.prog 30 #[.slice a xs.length c, .int .i64 at'] w' fun e w'' => e = .returned (.tuple #[.int .i64 v, .int .i64 nx, .int .i64 0]) ∧ w'' = w') := fun w' hb' => by
    have := readNumber_any a c xs at' w' (hx.below hb') hb hm
    rw [hr] at this
    exact this
  have HB : Hid (RdAt w br a xs.length c at') := h
  obtain ⟨c0, c1⟩ := cells_2 h
  have f2 := free_2 h
  clear h hx hb hm hr
  go_enter Tryd.func17, Tryd.ntmps17
  go_wp2_with fail
  go_region_held3 (fun w' => w'.cell? ⟨br, 0, none⟩ = some (.slice a xs.length c) ∧ w'.cell? ⟨br, 1, none⟩ = some (.int .i64 at')) (first | exact ⟨c0, c1⟩ | go_keep)
    (first
    | (go_at_call 30; refine (HR.out _ (below_drew (Below.refl _ _))).mono ?_; rintro e w1 ⟨rfl, rfl⟩)
    | fail)
  go_wp2_with fail
  refine (must_true _).mono ?_
  rintro e w2 ⟨rfl, rfl⟩
  go_wp2_with fail
  go_ret
  exact ⟨rfl, same_blk (w := World.drew w) HB.out rfl, (Chg.drew (Chg.refl _ _)).trans (Chg.set _ _ _)⟩
set_option maxHeartbeats 1600000 in
theorem rNumber_bad (br : Nat) (a : Option Addr) (c : Nat) (xs : List Int) (at' : Int) (w : World) (h : RdAt w br a xs.length c at') (hx : Bys w a xs) (hb : Byt xs) (hm : xs.length ≤ 1000000) (hr : (rdAny at' xs).2.2 ≠ 0) :
    Calls Tryd.prog 17 #[.pointer (some ⟨br, 0, none⟩)] w fun e w' => e = .panicked PN ∧ Below w.heap.size w w' := by
  obtain ⟨v, nx, cd, hq⟩ : ∃ v nx cd, rdAny at' xs = (v, nx, cd) := ⟨_, _, _, rfl⟩
  rw [hq] at hr
  have hcd : (cd == 0) = false := by simpa using hr
  have HR : Hid (∀ w', Below w.heap.size w w' → Calls Tryd.prog 30 #[.slice a xs.length c, .int .i64 at'] w' fun e w'' => e = .returned (.tuple #[.int .i64 v, .int .i64 nx, .int .i64 cd]) ∧ w'' = w') := fun w' hb' => by
    have := readNumber_any a c xs at' w' (hx.below hb') hb hm
    rw [hq] at this
    exact this
  have HB : Hid (RdAt w br a xs.length c at') := h
  obtain ⟨c0, c1⟩ := cells_2 h
  clear h hx hb hm hr hq
  go_enter Tryd.func17, Tryd.ntmps17
  go_wp2_with fail
  go_region_held3 (fun w' => w'.cell? ⟨br, 0, none⟩ = some (.slice a xs.length c) ∧ w'.cell? ⟨br, 1, none⟩ = some (.int .i64 at')) (first | exact ⟨c0, c1⟩ | go_keep)
    (first
    | (go_at_call 30; refine (HR.out _ (below_drew (Below.refl _ _))).mono ?_; rintro e w1 ⟨rfl, rfl⟩)
    | fail)
  go_wp2_with fail
  refine (must_false _).mono ?_
  rintro e w2 ⟨rfl, rfl⟩
  go_wp2_with fail
  exact ⟨rfl, rfl, below_drew (Below.refl _ _)⟩
set_option maxHeartbeats 1600000 in
theorem rText_ok (br : Nat) (a : Option Addr) (c : Nat) (xs : List Int) (at' : Int) (v : ByteArray) (nx : Int) (w : World) (h : RdAt w br a xs.length c at') (hx : Bys w a xs) (hb : Byt xs) (hm : xs.length ≤ 1000000) (hc : xs.length ≤ c) (hcm : c ≤ maxLen) (hr : rtAny at' xs = (v, nx, 0)) :
    Calls Tryd.prog 18 #[.pointer (some ⟨br, 0, none⟩)] w fun e w' => e = .returned (.string v) ∧ RdAt w' br a xs.length c nx ∧ Chg w w' (fun j => j = br) := by
  have HR : Hid (∀ w', Below w.heap.size w w' → Calls Tryd.prog 31 #[.slice a xs.length c, .int .i64 at'] w' fun e w'' => e = .returned (.tuple #[.string v, .int .i64 nx, .int .i64 0]) ∧ w'' = w') := fun w' hb' => by
    have := readText_any a c xs at' w' (hx.below hb') hb hm hc hcm
    rw [hr] at this
    exact this
  have HB : Hid (RdAt w br a xs.length c at') := h
  obtain ⟨c0, c1⟩ := cells_2 h
  have f2 := free_2 h
  clear h hx hb hm hc hcm hr
  go_enter Tryd.func18, Tryd.ntmps18
  go_wp2_with fail
  go_region_held3 (fun w' => w'.cell? ⟨br, 0, none⟩ = some (.slice a xs.length c) ∧ w'.cell? ⟨br, 1, none⟩ = some (.int .i64 at')) (first | exact ⟨c0, c1⟩ | go_keep)
    (first
    | (go_at_call 31; refine (HR.out _ (below_drew (Below.refl _ _))).mono ?_; rintro e w1 ⟨rfl, rfl⟩)
    | fail)
  go_wp2_with fail
  refine (must_true _).mono ?_
  rintro e w2 ⟨rfl, rfl⟩
  go_wp2_with fail
  go_ret
  exact ⟨rfl, same_blk (w := World.drew w) HB.out rfl, (Chg.drew (Chg.refl _ _)).trans (Chg.set _ _ _)⟩
set_option maxHeartbeats 1600000 in
theorem rText_bad (br : Nat) (a : Option Addr) (c : Nat) (xs : List Int) (at' : Int) (w : World) (h : RdAt w br a xs.length c at') (hx : Bys w a xs) (hb : Byt xs) (hm : xs.length ≤ 1000000) (hc : xs.length ≤ c) (hcm : c ≤ maxLen) (hr : (rtAny at' xs).2.2 ≠ 0) :
    Calls Tryd.prog 18 #[.pointer (some ⟨br, 0, none⟩)] w fun e w' => e = .panicked PN ∧ Below w.heap.size w w' := by
  obtain ⟨v, nx, cd, hq⟩ : ∃ v nx cd, rtAny at' xs = (v, nx, cd) := ⟨_, _, _, rfl⟩
  rw [hq] at hr
  have hcd : (cd == 0) = false := by simpa using hr
  have HR : Hid (∀ w', Below w.heap.size w w' → Calls Tryd.prog 31 #[.slice a xs.length c, .int .i64 at'] w' fun e w'' => e = .returned (.tuple #[.string v, .int .i64 nx, .int .i64 cd]) ∧ w'' = w') := fun w' hb' => by
    have := readText_any a c xs at' w' (hx.below hb') hb hm hc hcm
    rw [hq] at this
    exact this
  have HB : Hid (RdAt w br a xs.length c at') := h
  obtain ⟨c0, c1⟩ := cells_2 h
  clear h hx hb hm hc hcm hr hq
  go_enter Tryd.func18, Tryd.ntmps18
  go_wp2_with fail
  go_region_held3 (fun w' => w'.cell? ⟨br, 0, none⟩ = some (.slice a xs.length c) ∧ w'.cell? ⟨br, 1, none⟩ = some (.int .i64 at')) (first | exact ⟨c0, c1⟩ | go_keep)
    (first
    | (go_at_call 31; refine (HR.out _ (below_drew (Below.refl _ _))).mono ?_; rintro e w1 ⟨rfl, rfl⟩)
    | fail)
  go_wp2_with fail
  refine (must_false _).mono ?_
  rintro e w2 ⟨rfl, rfl⟩
  go_wp2_with fail
  exact ⟨rfl, rfl, below_drew (Below.refl _ _)⟩
end Go.Proofs.YtponpkfdkdnaeaaDoor
