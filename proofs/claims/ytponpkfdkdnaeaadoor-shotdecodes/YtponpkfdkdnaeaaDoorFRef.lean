/-
  heraldref5: the cursor.
-/
import Derived.Test.YtponpkfdkdnaeaaDoorFPure
import Derived.Test.YtponpkfdkdnaeaaDoorSTurned
import Derived.Test.YtponpkfdkdnaeaaDoorWRefReadText
namespace Go.Proofs.YtponpkfdkdnaeaaDoor
open Go.RowKit
set_option linter.unusedVariables false
set_option linter.unusedSimpArgs false

/-- A cursor that stands there. -/
abbrev CuAt (w : World) (br : Nat) (a : Option Addr) (n c : Nat) (at' : Int) (bad : Bool) : Prop := w.heap[br]? = some (.cells #[.slice a n c, .int .i64 at', .bool bad] 43 (0, 0))
theorem free_3 {W : World} {b : Nat} {t : TypeId} {x0 x1 x2 : Value} (h : W.heap[b]? = some (.cells #[x0, x1, x2] t (0, 0))) (o : Nat) : W.frozen? ⟨b, o, none⟩ = false := by
  simp [World.frozen?, h]
theorem Chg.drewC {w w' : World} {S : Nat → Prop} (h : Chg w w' S) : Chg w w'.drew S := ⟨h.os, h.tape, h.output, h.size, h.block⟩
set_option maxHeartbeats 1600000 in
theorem cNum_ok (br : Nat) (a : Option Addr) (c : Nat) (xs : List Int) (at' : Int) (v : Int) (nx : Int) (w : World) (h : CuAt w br a xs.length c at' false) (hx : Bys w a xs) (hb : Byt xs) (hm : xs.length ≤ 1000000) (hr : rdAny at' xs = (v, nx, 0)) :
    Calls Tryd.prog 13 #[.pointer (some ⟨br, 0, none⟩)] w fun e w' => e = .returned (.int .i64 v) ∧ CuAt w' br a xs.length c nx false ∧ Chg w w' (fun j => j = br) := by
  have HR : Hid (∀ w', Below w.heap.size w w' → Calls Tryd.prog 22 #[.slice a xs.length c, .int .i64 at'] w' fun e w'' => e = .returned (.tuple #[.int .i64 v, .int .i64 nx, .int .i64 0]) ∧ w'' = w') := fun w' hb' => by
    have := refRead_any a c xs at' w' (hx.below hb') hb hm
    rw [hr] at this
    exact this
  have HB : Hid (CuAt w br a xs.length c at' false) := h
  obtain ⟨c0, c1, c2⟩ := cells_3 h
  have f3 := free_3 h
  clear h hx hb hm hr
  go_enter Tryd.func13, Tryd.ntmps13
  go_wp2_with fail
  go_region_held3 (fun w' => w'.cell? ⟨br, 0, none⟩ = some (.slice a xs.length c) ∧ w'.cell? ⟨br, 1, none⟩ = some (.int .i64 at')) (first | exact ⟨c0, c1⟩ | go_keep)
    (first
    | (go_at_call 22; refine (HR.out _ (below_drew (Below.refl _ _))).mono ?_; rintro e w1 ⟨rfl, rfl⟩)
    | fail)
  go_wp2_with fail
  go_ret
  exact ⟨rfl, same_blk (w := World.drew w) HB.out rfl, (Chg.drewC (Chg.refl _ _)).trans (Chg.set _ _ _)⟩
set_option maxHeartbeats 1600000 in
theorem cNum_no (br : Nat) (a : Option Addr) (c : Nat) (xs : List Int) (at' : Int) (w : World) (h : CuAt w br a xs.length c at' false) (hx : Bys w a xs) (hb : Byt xs) (hm : xs.length ≤ 1000000) (hr0 : (rdAny at' xs).2.2 ≠ 0) :
    Calls Tryd.prog 13 #[.pointer (some ⟨br, 0, none⟩)] w fun e w' => e = .returned (.int .i64 0) ∧ CuAt w' br a xs.length c at' true ∧ Chg w w' (fun j => j = br) := by
  obtain ⟨v, nx, cd, hr⟩ : ∃ v nx cd, rdAny at' xs = (v, nx, cd) := ⟨_, _, _, rfl⟩
  rw [hr] at hr0
  have hcd : (cd != 0) = true := by simpa using hr0
  clear hr0
  have HR : Hid (∀ w', Below w.heap.size w w' → Calls Tryd.prog 22 #[.slice a xs.length c, .int .i64 at'] w' fun e w'' => e = .returned (.tuple #[.int .i64 v, .int .i64 nx, .int .i64 cd]) ∧ w'' = w') := fun w' hb' => by
    have := refRead_any a c xs at' w' (hx.below hb') hb hm
    rw [hr] at this
    exact this
  have HB : Hid (CuAt w br a xs.length c at' false) := h
  obtain ⟨c0, c1, c2⟩ := cells_3 h
  have f3 := free_3 h
  clear h hx hb hm hr
  go_enter Tryd.func13, Tryd.ntmps13
  go_wp2_with fail
  go_region_held3 (fun w' => w'.cell? ⟨br, 0, none⟩ = some (.slice a xs.length c) ∧ w'.cell? ⟨br, 1, none⟩ = some (.int .i64 at')) (first | exact ⟨c0, c1⟩ | go_keep)
    (first
    | (go_at_call 22; refine (HR.out _ (below_drew (Below.refl _ _))).mono ?_; rintro e w1 ⟨rfl, rfl⟩)
    | fail)
  go_wp2_with fail
  go_ret
  exact ⟨rfl, same_blk (w := World.drew w) HB.out rfl, (Chg.drewC (Chg.refl _ _)).trans (Chg.set _ _ _)⟩
set_option maxHeartbeats 1600000 in
theorem cNum_bad (br : Nat) (a : Option Addr) (c : Nat) (xs : List Int) (at' : Int) (w : World) (h : CuAt w br a xs.length c at' true) (hx : Bys w a xs) (hb : Byt xs) (hm : xs.length ≤ 1000000) :
    Calls Tryd.prog 13 #[.pointer (some ⟨br, 0, none⟩)] w fun e w' => e = .returned (.int .i64 0) ∧ CuAt w' br a xs.length c at' true ∧ Chg w w' (fun j => j = br) := by
  obtain ⟨v, nx, cd, hr⟩ : ∃ v nx cd, rdAny at' xs = (v, nx, cd) := ⟨_, _, _, rfl⟩
  have HR : Hid (∀ w', Below w.heap.size w w' → Calls Tryd.prog 22 #[.slice a xs.length c, .int .i64 at'] w' fun e w'' => e = .returned (.tuple #[.int .i64 v, .int .i64 nx, .int .i64 cd]) ∧ w'' = w') := fun w' hb' => by
    have := refRead_any a c xs at' w' (hx.below hb') hb hm
    rw [hr] at this
    exact this
  have HB : Hid (CuAt w br a xs.length c at' true) := h
  obtain ⟨c0, c1, c2⟩ := cells_3 h
  have f3 := free_3 h
  clear h hx hb hm hr
  go_enter Tryd.func13, Tryd.ntmps13
  go_wp2_with fail
  go_region_held3 (fun w' => w'.cell? ⟨br, 0, none⟩ = some (.slice a xs.length c) ∧ w'.cell? ⟨br, 1, none⟩ = some (.int .i64 at')) (first | exact ⟨c0, c1⟩ | go_keep)
    (first
    | (go_at_call 22; refine (HR.out _ (below_drew (Below.refl _ _))).mono ?_; rintro e w1 ⟨rfl, rfl⟩)
    | fail)
  go_wp2_with fail
  go_ret
  exact ⟨rfl, same_blk (w := World.drew w) HB.out rfl, (Chg.drewC (Chg.refl _ _)).trans (Chg.set _ _ _)⟩
set_option maxHeartbeats 1600000 in
theorem cTxt_ok (br : Nat) (a : Option Addr) (c : Nat) (xs : List Int) (at' : Int) (v : ByteArray) (nx : Int) (w : World) (h : CuAt w br a xs.length c at' false) (hx : Bys w a xs) (hb : Byt xs) (hm : xs.length ≤ 1000000) (hc : xs.length ≤ c) (hcm : c ≤ maxLen) (hr : rtAny at' xs = (v, nx, 0)) :
    Calls Tryd.prog 14 #[.pointer (some ⟨br, 0, none⟩)] w fun e w' => e = .returned (.string v) ∧ CuAt w' br a xs.length c nx false ∧ Chg w w' (fun j => j = br) := by
  have HR : Hid (∀ w', Below w.heap.size w w' → Calls Tryd.prog 23 #[.slice a xs.length c, .int .i64 at'] w' fun e w'' => e = .returned (.tuple #[.string v, .int .i64 nx, .int .i64 0]) ∧ w'' = w') := fun w' hb' => by
    have := refReadText_any a c xs at' w' (hx.below hb') hb hm hc hcm
    rw [hr] at this
    exact this
  have HB : Hid (CuAt w br a xs.length c at' false) := h
  obtain ⟨c0, c1, c2⟩ := cells_3 h
  have f3 := free_3 h
  clear h hx hb hm hc hcm hr
  go_enter Tryd.func14, Tryd.ntmps14
  go_wp2_with fail
  go_region_held3 (fun w' => w'.cell? ⟨br, 0, none⟩ = some (.slice a xs.length c) ∧ w'.cell? ⟨br, 1, none⟩ = some (.int .i64 at')) (first | exact ⟨c0, c1⟩ | go_keep)
    (first
    | (go_at_call 23; refine (HR.out _ (below_drew (Below.refl _ _))).mono ?_; rintro e w1 ⟨rfl, rfl⟩)
    | fail)
  go_wp2_with fail
  go_ret
  exact ⟨rfl, same_blk (w := World.drew w) HB.out rfl, (Chg.drewC (Chg.refl _ _)).trans (Chg.set _ _ _)⟩
set_option maxHeartbeats 1600000 in
theorem cTxt_no (br : Nat) (a : Option Addr) (c : Nat) (xs : List Int) (at' : Int) (w : World) (h : CuAt w br a xs.length c at' false) (hx : Bys w a xs) (hb : Byt xs) (hm : xs.length ≤ 1000000) (hc : xs.length ≤ c) (hcm : c ≤ maxLen) (hr0 : (rtAny at' xs).2.2 ≠ 0) :
    Calls Tryd.prog 14 #[.pointer (some ⟨br, 0, none⟩)] w fun e w' => e = .returned (.string ⟨#[]⟩) ∧ CuAt w' br a xs.length c at' true ∧ Chg w w' (fun j => j = br) := by
  obtain ⟨v, nx, cd, hr⟩ : ∃ v nx cd, rtAny at' xs = (v, nx, cd) := ⟨_, _, _, rfl⟩
  rw [hr] at hr0
  have hcd : (cd != 0) = true := by simpa using hr0
  clear hr0
  have HR : Hid (∀ w', Below w.heap.size w w' → Calls Tryd.prog 23 #[.slice a xs.length c, .int .i64 at'] w' fun e w'' => e = .returned (.tuple #[.string v, .int .i64 nx, .int .i64 cd]) ∧ w'' = w') := fun w' hb' => by
    have := refReadText_any a c xs at' w' (hx.below hb') hb hm hc hcm
    rw [hr] at this
    exact this
  have HB : Hid (CuAt w br a xs.length c at' false) := h
  obtain ⟨c0, c1, c2⟩ := cells_3 h
  have f3 := free_3 h
  clear h hx hb hm hc hcm hr
  go_enter Tryd.func14, Tryd.ntmps14
  go_wp2_with fail
  go_region_held3 (fun w' => w'.cell? ⟨br, 0, none⟩ = some (.slice a xs.length c) ∧ w'.cell? ⟨br, 1, none⟩ = some (.int .i64 at')) (first | exact ⟨c0, c1⟩ | go_keep)
    (first
    | (go_at_call 23; refine (HR.out _ (below_drew (Below.refl _ _))).mono ?_; rintro e w1 ⟨rfl, rfl⟩)
    | fail)
  go_wp2_with fail
  go_ret
  exact ⟨rfl, same_blk (w := World.drew w) HB.out rfl, (Chg.drewC (Chg.refl _ _)).trans (Chg.set _ _ _)⟩
set_option maxHeartbeats 1600000 in
theorem cTxt_bad (br : Nat) (a : Option Addr) (c : Nat) (xs : List Int) (at' : Int) (w : World) (h : CuAt w br a xs.length c at' true) (hx : Bys w a xs) (hb : Byt xs) (hm : xs.length ≤ 1000000) (hc : xs.length ≤ c) (hcm : c ≤ maxLen) :
    Calls Tryd.prog 14 #[.pointer (some ⟨br, 0, none⟩)] w fun e w' => e = .returned (.string ⟨#[]⟩) ∧ CuAt w' br a xs.length c at' true ∧ Chg w w' (fun j => j = br) := by
  obtain ⟨v, nx, cd, hr⟩ : ∃ v nx cd, rtAny at' xs = (v, nx, cd) := ⟨_, _, _, rfl⟩
  have HR : Hid (∀ w', Below w.heap.size w w' → Calls Tryd.prog 23 #[.slice a xs.length c, .int .i64 at'] w' fun e w'' => e = .returned (.tuple #[.string v, .int .i64 nx, .int .i64 cd]) ∧ w'' = w') := fun w' hb' => by
    have := refReadText_any a c xs at' w' (hx.below hb') hb hm hc hcm
    rw [hr] at this
    exact this
  have HB : Hid (CuAt w br a xs.length c at' true) := h
  obtain ⟨c0, c1, c2⟩ := cells_3 h
  have f3 := free_3 h
  clear h hx hb hm hc hcm hr
  go_enter Tryd.func14, Tryd.ntmps14
  go_wp2_with fail
  go_region_held3 (fun w' => w'.cell? ⟨br, 0, none⟩ = some (.slice a xs.length c) ∧ w'.cell? ⟨br, 1, none⟩ = some (.int .i64 at')) (first | exact ⟨c0, c1⟩ | go_keep)
    (first
    | (go_at_call 23; refine (HR.out _ (below_drew (Below.refl _ _))).mono ?_; rintro e w1 ⟨rfl, rfl⟩)
    | fail)
  go_wp2_with fail
  go_ret
  exact ⟨rfl, same_blk (w := World.drew w) HB.out rfl, (Chg.drewC (Chg.refl _ _)).trans (Chg.set _ _ _)⟩
end Go.Proofs.YtponpkfdkdnaeaaDoor
