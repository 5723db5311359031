/-
  The document's answer for Text.
-/
import Derived.Test.YtkmiemjjedbnaaaDoorWText
import Derived.Test.YtkmiemjjedbnaaaDoorWRefNumber
namespace Go.Proofs.YtkmiemjjedbnaaaDoor
open Go.RowKit

set_option maxHeartbeats 1600000 in
set_option maxRecDepth 100000 in
theorem refText_any (s : ByteArray) (w : World) (hs : s.size ≤ 1000000) :
    Calls Tryd.prog 49 #[.string s] w fun e w' => ∃ a c, e = .returned (.tuple #[.slice a (textL s).length c, .int .i64 (textC s)]) ∧
      w'.ownsRow w.heap.size 5 1 (.slice a (textL s).length c) (textL s).length (bv (textL s)) ∧ Below w.heap.size w w' := by
  obtain ⟨i0, hi, hz0, hz1, hz2⟩ := info_parts Tryd.info5
  by_cases h : s.size ≤ 262144
  · have e1 : textL s = numL s.size ++ strL s := by unfold textL; rw [if_pos h]
    have e2 : textC s = 0 := by unfold textC; rw [if_pos h]
    rw [e1, e2]
    have hln := (numL_len (v := s.size) 5 (by omega) (by omega)).1
    have hlen : (numL s.size ++ strL s).length = (numL s.size).length + s.size := by rw [List.length_append, strL_len]
    have HC : Hid _ := strL_cells s
    obtain ⟨T, hT⟩ : ∃ T, numL s.size ++ strL s = T := ⟨_, rfl⟩
    rw [hT]
    rw [hT] at hlen
    have HL : Hid _ := hlen
    have HT : Hid _ := hT
    clear e1 e2 hlen hT
    go_enter Tryd.func49, Tryd.ntmps49
    go_wp2_with fail
    refine (refNumber_good s.size w (by omega)).mono ?_
    rintro e w2 ⟨a2, c2, rfl, ho2, hb2⟩
    have HO2 : Hid _ := ho2
    have HB2 : Hid (Below w.heap.size w w2) := hb2
    clear ho2 hb2
    go_wp2_with (first
      | (at_builtin; refine Lib.wpList_append_own_string _ rfl _ _ 34 9 rfl w.heap.size 5 i0 Tryd.underlying34 Tryd.underlying9 hi hz0 hz1 hz2 _ (numL s.size).length (bv (numL s.size)) rfl HO2.out s rfl (by unfold maxLen; omega) (by omega) HB2.out.size ?_; intro v3 w3 hown3 hgrow3 _
         rw [HC.out, ← bv_append, HT.out, ← HL.out] at hown3
         have HB3 : Hid (Below w.heap.size w w3) := HB2.out.grown hgrow3 HB2.out.size (fun k hk => (World.ownsRow.lt HO2.out k hk).1)
         obtain ⟨a3, c3, rfl, -⟩ := bys_of_owns hown3
         have HO3 : Hid _ := hown3
         clear hown3 hgrow3)
      | fail)
    go_ret2
    exact ⟨a3, c3, rfl, HO3.out, HB3.out⟩
  · have e1 : textL s = [] := by unfold textL; rw [if_neg h]
    have e2 : textC s = 2 := by unfold textC; rw [if_neg h]
    rw [e1, e2]
    have h' : (262144 : Int) < (s.size : Int) := by omega
    clear e1 e2
    go_enter Tryd.func49, Tryd.ntmps49
    go_wp2
    go_ret2
    exact ⟨none, 0, rfl, World.ownsRow_nil _ _ _ _, Below.refl _ _⟩
end Go.Proofs.YtkmiemjjedbnaaaDoor
