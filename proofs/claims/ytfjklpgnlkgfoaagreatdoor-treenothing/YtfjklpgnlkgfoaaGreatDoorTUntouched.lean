/-
  tree: what was handed in is as it was.
-/
import Derived.Test.YtfjklpgnlkgfoaaGreatDoorTTwin
namespace Go.Proofs.YtfjklpgnlkgfoaaGreatDoor
open Go.RowKit Go.Maps
set_option linter.unusedVariables false
set_option linter.unusedSimpArgs false
abbrev roomCs : List Value := [.int .i64 77, .string ⟨#[114, 111, 111, 109]⟩, .string ⟨#[]⟩, .int .i64 0, .int .i64 0, .int .i64 78, .string ⟨#[114, 111, 111, 109]⟩, .string ⟨#[]⟩, .int .i64 0, .int .i64 0]
theorem opCs_len (os : List OpT) : (opCs os).length = os.length * 5 := by
  induction os with
  | nil => rfl
  | cons o os ih => simp [opCs] at *; omega
theorem opCs_at (os : List OpT) (q j : Nat) (o : OpT) (x : Value) (h : os[q]? = some o) (hx : o.cells[j]? = some x) (rest : List Value) : (opCs os ++ rest)[q * 5 + j]? = some x := by
  induction os generalizing q with
  | nil => cases h
  | cons a os ih =>
    have hj : j < 5 := (List.getElem?_eq_some_iff.1 hx).1
    cases q with
    | zero =>
      cases h
      show (o.cells ++ opCs os ++ rest)[0 * 5 + j]? = some x
      rw [Nat.zero_mul, Nat.zero_add, List.append_assoc, List.getElem?_append_left (by simpa using hj)]
      exact hx
    | succ q =>
      show (a.cells ++ opCs os ++ rest)[(q + 1) * 5 + j]? = some x
      rw [List.append_assoc, List.getElem?_append_right (by simp; omega)]
      rw [show (q + 1) * 5 + j - a.cells.length = q * 5 + j by simp; omega]
      exact ih q h
theorem opCs_room (os : List OpT) (j : Nat) : (opCs os ++ roomCs)[os.length * 5 + j]? = roomCs[j]? := by
  rw [List.getElem?_append_right (by rw [opCs_len]; omega), opCs_len]
  congr 1
  omega

set_option maxHeartbeats 3200000 in
set_option maxRecDepth 100000 in
theorem untouched_any (base g cap : Nat) (w : World) (os : List OpT) (a : Option Addr) (c : Nat) (ho : OpsAt w base a os) (hr : w.ownsRow base 53 5 (.slice (some ⟨g, 0, none⟩) (os.length + 2) cap) (os.length + 2) (opCs os ++ roomCs)) (hl : os.length ≤ 2513169434846) :
    Calls Tryz.prog 9 #[.slice (some ⟨g, 0, none⟩) (os.length + 2) cap, .slice a os.length c] w fun e w' => e = .returned (.bool true) ∧ Below w.heap.size w w' := by
  have HO : Hid _ := ho
  have HR : Hid (w.ownsRow base 53 5 (.slice (some ⟨g, 0, none⟩) (os.length + 2) cap) (os.length + 2) (opCs os ++ roomCs)) := hr
  clear ho hr
  go_enter Tryz.func9, Tryz.ntmps9
  go_wp2_with fail
  go_loopw [6] (fun i wr => ∃ q : Nat, i = .int .i64 q ∧ q ≤ os.length ∧ Hid (Below w.heap.size w wr)) (fun i _ => os.length - (intOf i).toNat)
  case atStart => exact ⟨0, rfl, Nat.zero_le _, Below.refl _ _⟩
  case round =>
    obtain ⟨q, rfl, hq, HBk⟩ := hrel
    by_cases hlt : q < os.length
    · obtain ⟨o, hoq⟩ : ∃ o, os[q]? = some o := ⟨os[q], List.getElem?_eq_getElem hlt⟩
      obtain ⟨b, f, rfl, hbl, hcs⟩ := HO.out q o hoq
      have hgl : g < w.heap.size := (HR.out.lt g rfl).2
      have hbl' : b < w.heap.size := by have := (HR.out.lt g rfl).1; omega
      have hk : ∀ j x, o.cells[j]? = some x → wr.cell? ⟨b, f + q * 5 + j, none⟩ = some x := fun j x hx => by rw [HBk.out.cell (p := ⟨b, f + q * 5 + j, none⟩) hbl']; exact hcs j x hx
      have hm : ∀ j x, o.cells[j]? = some x → wr.cell? ⟨g, q * 5 + j, none⟩ = some x := fun j x hx => by rw [HBk.out.cell (p := ⟨g, q * 5 + j, none⟩) hgl]; exact cell_n HR.out (opCs_at os q j o x hoq hx _)
      have k0 : wr.cell? ⟨b, f + q * 5, none⟩ = some (.int .i64 o.k) := hk 0 _ rfl
      have k1 := hk 1 _ rfl
      have k2 := hk 2 _ rfl
      have k3 := hk 3 _ rfl
      have k4 := hk 4 _ rfl
      have m0 : wr.cell? ⟨g, q * 5, none⟩ = some (.int .i64 o.k) := hm 0 _ rfl
      have m1 := hm 1 _ rfl
      have m2 := hm 2 _ rfl
      have m3 := hm 3 _ rfl
      have m4 := hm 4 _ rfl
      have hlt' : (q : Int) < (os.length : Int) := by omega
      have hlt2 : (q : Int) < (os.length + 2 : Int) := by omega
      clear hk hm hcs hoq
      go_wp2_with fail
      go_region_held3 (fun w' => w'.cell? ⟨b, f + q * 5, none⟩ = some (.int .i64 o.k) ∧ w'.cell? ⟨b, f + q * 5 + 1, none⟩ = some (.string o.p) ∧ w'.cell? ⟨b, f + q * 5 + 2, none⟩ = some (.string o.d) ∧ w'.cell? ⟨b, f + q * 5 + 3, none⟩ = some (.int .i64 o.v) ∧ w'.cell? ⟨b, f + q * 5 + 4, none⟩ = some (.int .i64 o.f) ∧ w'.cell? ⟨g, q * 5, none⟩ = some (.int .i64 o.k) ∧ w'.cell? ⟨g, q * 5 + 1, none⟩ = some (.string o.p) ∧ w'.cell? ⟨g, q * 5 + 2, none⟩ = some (.string o.d) ∧ w'.cell? ⟨g, q * 5 + 3, none⟩ = some (.int .i64 o.v) ∧ w'.cell? ⟨g, q * 5 + 4, none⟩ = some (.int .i64 o.f)) (go_keep) (fail)
      have HBd : Hid (Below w.heap.size w wr.drew) := below_drew HBk.out
      go_wp2_with fail
      go_roundw
      case rel => exact ⟨q + 1, by go_num, by omega, HBd.out⟩
      case measure => simp [intOf]; omega
    · obtain rfl : q = os.length := by omega
      have hgl : g < w.heap.size := (HR.out.lt g rfl).2
      have hm : ∀ j x, roomCs[j]? = some x → wr.cell? ⟨g, os.length * 5 + j, none⟩ = some x := fun j x hx => by rw [HBk.out.cell (p := ⟨g, os.length * 5 + j, none⟩) hgl]; exact cell_n HR.out (by rw [opCs_room]; exact hx)
      have m0 : wr.cell? ⟨g, os.length * 5, none⟩ = some (.int .i64 77) := hm 0 _ rfl
      have m1 := hm 1 _ rfl
      have m2 := hm 2 _ rfl
      have m3 := hm 3 _ rfl
      have m4 := hm 4 _ rfl
      have e5 : ∀ j, (os.length + 1) * 5 + j = os.length * 5 + (5 + j) := fun j => by omega
      have n0 : wr.cell? ⟨g, (os.length + 1) * 5, none⟩ = some (.int .i64 78) := by have := hm 5 _ rfl; rw [show (os.length + 1) * 5 = os.length * 5 + 5 by omega]; exact this
      have n1 : wr.cell? ⟨g, (os.length + 1) * 5 + 1, none⟩ = some (.string ⟨#[114, 111, 111, 109]⟩) := by rw [e5]; exact hm 6 _ rfl
      have n2 : wr.cell? ⟨g, (os.length + 1) * 5 + 2, none⟩ = some (.string ⟨#[]⟩) := by rw [e5]; exact hm 7 _ rfl
      have n3 : wr.cell? ⟨g, (os.length + 1) * 5 + 3, none⟩ = some (.int .i64 0) := by rw [e5]; exact hm 8 _ rfl
      have n4 : wr.cell? ⟨g, (os.length + 1) * 5 + 4, none⟩ = some (.int .i64 0) := by rw [e5]; exact hm 9 _ rfl
      have hlt1 : (os.length : Int) < (os.length + 2 : Int) := by omega
      have hlt2 : (os.length + 1 : Int) < (os.length + 2 : Int) := by omega
      clear hm e5
      go_wp2_with fail
      go_ret
      exact ⟨rfl, HBk.out⟩
end Go.Proofs.YtfjklpgnlkgfoaaGreatDoor
