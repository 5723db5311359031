/-
  heraldref5: num, txt, Encode.
-/
import Derived.Test.YtkmiemjjedbnaaaDoorEShot
import Derived.Test.YtkmiemjjedbnaaaDoorWRefText
import Derived.Test.YtkmiemjjedbnaaaDoorWRefNumber
namespace Go.Proofs.YtkmiemjjedbnaaaDoor
open Go.RowKit
set_option linter.unusedVariables false
set_option linter.unusedSimpArgs false

set_option maxHeartbeats 1600000 in
set_option maxRecDepth 100000 in
theorem rnum_any (base : Nat) (v : Value) (xs : List Int) (n : Nat) (w : World) (h : w.ownsRow base 5 1 v xs.length (bv xs)) (hv : n ≤ 2147483647) (hl : xs.length ≤ 1000000) (hB : base ≤ w.heap.size) :
    Calls Tryd.prog 32 #[v, .int .i64 n] w fun e w' => ∃ v', e = .returned v' ∧ w'.ownsRow base 5 1 v' (xs ++ numL n).length (bv (xs ++ numL n)) ∧ Chg w w' (fun k => v.ownBlock = some k) := by
  have HNU : Hid _ := refNumber_any (n : Int) w (by omega)
  have hc : (0 : Int) ≤ (n : Int) ∧ (n : Int) ≤ 2147483647 := by omega
  rw [if_pos hc, if_pos hc, Int.toNat_natCast] at HNU
  have hnl : (numL n).length ≤ 5 := num_le n hv
  have HO : Hid (w.ownsRow base 5 1 v xs.length (bv xs)) := h
  obtain ⟨va, vc, rfl, _⟩ := owns_form h
  clear h hc
  go_enter Tryd.func32, Tryd.ntmps32
  go_wp2_with fail
  refine Calls.mono HNU.out ?_
  rintro e w1 ⟨a, c, zs, rfl, rfl, ho1, hb1⟩
  obtain ⟨a', c', hv', hby, hnn, _⟩ := bys_of_owns ho1
  cases hv'
  have HO1 : Hid (w1.ownsRow base 5 1 (.slice va xs.length vc) xs.length (bv xs)) := owns_below HO.out hb1
  have HBY : Hid (Bys w1 a (numL n)) := hby
  have HB1 : Hid (Chg w w1 (fun k => (Value.slice va xs.length vc).ownBlock = some k)) := Chg.of_below hb1 _
  have HBS : Hid (base ≤ w1.heap.size) := Nat.le_trans hB hb1.size
  clear ho1 hb1 hby
  go_wp2_with (first
    | (at_builtin; refine wpList_appB rfl _ _ rfl base (.slice va xs.length vc) xs rfl HO1.out a (numL n).length c (numL n) rfl rfl HBY.out hnn (by omega) HBS.out ?_
       intro v2 w2 ho2 hg2 hat2
       have HO2 : Hid (w2.ownsRow base 5 1 v2 (xs ++ numL n).length (bv (xs ++ numL n))) := ho2
       have HB2 : Hid (Chg w w2 (fun k => (Value.slice va xs.length vc).ownBlock = some k)) := HB1.out.trans (Chg.grown hg2)
       clear ho2 hg2 hat2)
    | fail)
  go_ret
  exact ⟨v2, rfl, HO2.out, HB2.out⟩
set_option maxHeartbeats 1600000 in
set_option maxRecDepth 100000 in
theorem rtxt_any (base : Nat) (v : Value) (xs : List Int) (t : ByteArray) (w : World) (h : w.ownsRow base 5 1 v xs.length (bv xs)) (ht : t.size ≤ 1000) (hl : xs.length ≤ 1000000) (hB : base ≤ w.heap.size) :
    Calls Tryd.prog 33 #[v, .string t] w fun e w' => ∃ v', e = .returned v' ∧ w'.ownsRow base 5 1 v' (xs ++ textL t).length (bv (xs ++ textL t)) ∧ Chg w w' (fun k => v.ownBlock = some k) := by
  have HNU : Hid _ := refText_any t w (by omega)
  have hnl : (textL t).length ≤ 1005 := text_le t ht
  have HO : Hid (w.ownsRow base 5 1 v xs.length (bv xs)) := h
  obtain ⟨va, vc, rfl, _⟩ := owns_form h
  clear h
  go_enter Tryd.func33, Tryd.ntmps33
  go_wp2_with fail
  refine Calls.mono HNU.out ?_
  rintro e w1 ⟨a, c, rfl, ho1, hb1⟩
  obtain ⟨a', c', hv', hby, hnn, _⟩ := bys_of_owns ho1
  cases hv'
  have HO1 : Hid (w1.ownsRow base 5 1 (.slice va xs.length vc) xs.length (bv xs)) := owns_below HO.out hb1
  have HBY : Hid (Bys w1 a (textL t)) := hby
  have HB1 : Hid (Chg w w1 (fun k => (Value.slice va xs.length vc).ownBlock = some k)) := Chg.of_below hb1 _
  have HBS : Hid (base ≤ w1.heap.size) := Nat.le_trans hB hb1.size
  clear ho1 hb1 hby
  go_wp2_with (first
    | (at_builtin; refine wpList_appB rfl _ _ rfl base (.slice va xs.length vc) xs rfl HO1.out a (textL t).length c (textL t) rfl rfl HBY.out hnn (by omega) HBS.out ?_
       intro v2 w2 ho2 hg2 hat2
       have HO2 : Hid (w2.ownsRow base 5 1 v2 (xs ++ textL t).length (bv (xs ++ textL t))) := ho2
       have HB2 : Hid (Chg w w2 (fun k => (Value.slice va xs.length vc).ownBlock = some k)) := HB1.out.trans (Chg.grown hg2)
       clear ho2 hg2 hat2)
    | fail)
  go_ret
  exact ⟨v2, rfl, HO2.out, HB2.out⟩
end Go.Proofs.YtkmiemjjedbnaaaDoor
