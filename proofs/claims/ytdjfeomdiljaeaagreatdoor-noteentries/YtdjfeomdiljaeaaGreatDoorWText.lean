/-
  Text in the program.
-/
import Derived.Test.YtdjfeomdiljaeaaGreatDoorWNumber
import Derived.Lib.AppendStr
import Derived.Laws.BytesArg
namespace Go.Proofs.YtdjfeomdiljaeaaGreatDoor
open Go.RowKit

/-- The bytes of a text. -/
def strL (s : ByteArray) : List Int := s.data.toList.map fun b => (b.toNat : Int)
theorem strL_cells (s : ByteArray) : Lib.strCells s = bv (strL s) := by simp [Lib.strCells, bv, strL]
theorem strL_len (s : ByteArray) : (strL s).length = s.size := by
  unfold strL
  rw [List.length_map, Array.length_toList]
  rfl
theorem strL_byt (s : ByteArray) : Byt (strL s) := by
  intro z hz
  obtain ⟨b, _, rfl⟩ := List.mem_map.1 hz
  have := b.toNat_lt
  omega
/-- What Text writes. -/
def textL (s : ByteArray) : List Int := if s.size ≤ 262144 then numL s.size ++ strL s else []
def textC (s : ByteArray) : Int := if s.size ≤ 262144 then 0 else 2

set_option maxHeartbeats 1600000 in
set_option maxRecDepth 100000 in
theorem text_any (s : ByteArray) (w : World) (hs : s.size ≤ 1000000) :
    Calls Tryz.prog 167 #[.string s] w fun e w' => ∃ a c, e = .returned (.tuple #[.slice a (textL s).length c, .int .i64 (textC s)]) ∧
      w'.ownsRow w.heap.size 5 1 (.slice a (textL s).length c) (textL s).length (bv (textL s)) ∧ Below w.heap.size w w' := by
  obtain ⟨i0, hi, hz0, hz1, hz2⟩ := info_parts Tryz.info5
  by_cases h : s.size ≤ 262144
  · have e1 : textL s = numL s.size ++ strL s := by unfold textL; rw [if_pos h]
    have e2 : textC s = 0 := by unfold textC; rw [if_pos h]
    rw [e1, e2]
    have hln := (numL_len (v := s.size) 5 (by omega) (by omega)).1
    have hlen : (numL s.size ++ strL s).length = (numL s.size).length + s.size := by rw [List.length_append, strL_len]
    have HC : Hid _ := strL_cells s
    obtain ⟨T, hT⟩ : ∃ T, numL s.size ++ strL s = T := ⟨_, rfl⟩
    rw [hT]
    rw [hT] at hlen
    have HL : Hid _ := hlen
    have HT : Hid _ := hT
    clear e1 e2 hlen hT
    go_enter Tryz.func167, Tryz.ntmps167
    go_wp2_with (first
      | (at_make; refine wpList_make_own _ rfl _ _ 25 rfl w.heap.size 5 i0 (.int .u8 0) 1 Tryz.underlying25 hi hz0 hz1 _ _ _ (5 + s.size) rfl rfl (by omega) (by rw [hz2]; omega) (by unfold maxLen; omega) (Nat.le_refl _) ?_; intro w1 hown1 hgrow1
         have HO1 : Hid (w1.ownsRow w.heap.size 5 1 (.slice (some ⟨w.heap.size, 0, none⟩) 0 (5 + s.size)) 0 []) := hown1
         have HB1 : Hid (Below w.heap.size w w1) := (Below.refl _ _).grown hgrow1 (Nat.le_refl _) (fun k hk => by cases hk)
         clear hown1 hgrow1)
      | fail)
    refine (appNum_any w.heap.size _ [] s.size w1 HO1.out (by omega) (by simp) HB1.out.size).mono ?_
    rintro e w2 ⟨v2, rfl, ho2, hb2⟩
    rw [List.nil_append] at ho2
    have HO2 : Hid _ := ho2
    have HB2 : Hid (Below w.heap.size w w2) := HB1.out.trans hb2
    clear ho2 hb2 HO1
    go_wp2_with (first
      | (at_builtin; refine Lib.wpList_append_own_string _ rfl _ _ 25 9 rfl w.heap.size 5 i0 Tryz.underlying25 Tryz.underlying9 hi hz0 hz1 hz2 v2 (numL s.size).length (bv (numL s.size)) rfl HO2.out s rfl (by unfold maxLen; omega) (by omega) HB2.out.size ?_; intro v3 w3 hown3 hgrow3 _
         rw [HC.out, ← bv_append, HT.out, ← HL.out] at hown3
         have HB3 : Hid (Below w.heap.size w w3) := HB2.out.grown hgrow3 HB2.out.size (fun k hk => (World.ownsRow.lt HO2.out k hk).1)
         obtain ⟨a3, c3, rfl, -⟩ := bys_of_owns hown3
         have HO3 : Hid _ := hown3
         clear hown3 hgrow3)
      | fail)
    go_ret2
    exact ⟨a3, c3, rfl, HO3.out, HB3.out⟩
  · have e1 : textL s = [] := by unfold textL; rw [if_neg h]
    have e2 : textC s = 2 := by unfold textC; rw [if_neg h]
    rw [e1, e2]
    have h' : (262144 : Int) < (s.size : Int) := by omega
    clear e1 e2
    go_enter Tryz.func167, Tryz.ntmps167
    go_wp2
    go_ret2
    exact ⟨none, 0, rfl, World.ownsRow_nil _ _ _ _, Below.refl _ _⟩
end Go.Proofs.YtdjfeomdiljaeaaGreatDoor
