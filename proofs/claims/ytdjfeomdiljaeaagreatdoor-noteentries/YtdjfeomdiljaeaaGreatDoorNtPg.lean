import Derived.Test.YtdjfeomdiljaeaaGreatDoorWNumber
import Derived.Test.YtdjfeomdiljaeaaGreatDoorWText
import Derived.Test.YtdjfeomdiljaeaaGreatDoorNtWr
namespace Go.Proofs.YtdjfeomdiljaeaaGreatDoor
open Go.RowKit

set_option maxHeartbeats 1600000 in
set_option maxRecDepth 100000 in
theorem refNumber_good (v : Nat) (w : World) (hv : v < 2147483648) :
    Calls Tryz.prog 97 #[.int .i64 v] w fun e w' => ∃ a c, e = .returned (.tuple #[.slice a (numL v).length c, .int .i64 0]) ∧ w'.ownsRow w.heap.size 5 1 (.slice a (numL v).length c) (numL v).length (bv (numL v)) ∧ Below w.heap.size w w' := by
  obtain ⟨i0, hi, hz0, hz1, hz2⟩ := info_parts Tryz.info5
  obtain ⟨T, hT⟩ : ∃ T, numL v = T := ⟨_, rfl⟩
  rw [hT]
  have HT : Hid _ := hT
  clear hT
  have h0 : ¬ (v : Int) < 0 := by omega
  have h1 : ¬ (2147483647 : Int) < (v : Int) := by omega
  go_enter Tryz.func97, Tryz.ntmps97
  go_wp2
  clear h0 h1
  go_loopw [0, 4] (fun x u wr => ∃ (y : Nat) (done : List Int), x = .int .i64 y ∧ y ≤ v ∧ done.length ≤ v - y ∧ wr.ownsRow w.heap.size 5 1 u done.length (bv done) ∧ Below w.heap.size w wr ∧ Hid (done ++ numL y = T))
    (fun x _ _ => (intOf x).toNat)
  case atStart => exact ⟨v, [], rfl, by omega, by simp, World.ownsRow_nil _ _ _ _, Below.refl _ _, HT.out⟩
  case round =>
    obtain ⟨y, done, rfl, hy, hdl, hown, hbel, HG⟩ := hrel
    by_cases hlt : y < 128
    · have HX : Hid (done ++ [(y : Int)] = T) := by have := HG.out; rw [numL_small hlt] at this; exact this
      clear HG HT
      have hy256 : (y : Int) % 256 = y := by omega
      go_wp2_with (first
        | (at_builtin; refine wpList_append_own _ rfl _ _ 25 rfl w.heap.size 5 i0 (.int .u8 0) 1 1 Tryz.underlying25 hi hz0 hz1 hz2 rfl (by decide) _ _ _ rfl (hown.alloc _) ⟨wr.heap.size, 0, none⟩ 1 1 [.int .u8 y] rfl rfl (cell_one_new _ _ _) (fun x hx => by simp at hx; subst hx; rfl) (by unfold maxLen; omega) (by omega) (by have := hbel.size; simp; omega) ?_; intro v' w1 hown' hgrow _)
        | go_in)
      have R := rel_appI hown hbel (Nat.le_refl _) hown' hgrow
      rw [HX.out] at R
      obtain ⟨a, c, rfl, _⟩ := bys_of_owns R.1
      go_ret2
      exact ⟨a, c, rfl, R.1, R.2⟩
    · have HX : Hid ((done ++ [((y % 128 + 128 : Nat) : Int)]) ++ numL (y / 128) = T) := by have := HG.out; rw [numL_big hlt] at this; rw [List.append_assoc]; exact this
      clear HG HT
      go_wp2_with (first
        | (at_builtin; refine wpList_append_own _ rfl _ _ 25 rfl w.heap.size 5 i0 (.int .u8 0) 1 1 Tryz.underlying25 hi hz0 hz1 hz2 rfl (by decide) _ _ _ rfl (hown.alloc _) ⟨wr.heap.size, 0, none⟩ 1 1 [.int .u8 ((y : Int) % 128 + 128)] rfl rfl (cell_one_new _ _ _) (fun x hx => by simp at hx; subst hx; rfl) (by unfold maxLen; omega) (by omega) (by have := hbel.size; simp; omega) ?_; intro v' w1 hown' hgrow _)
        | go_in)
      have R := rel_appI hown hbel (Nat.le_refl _) hown' hgrow
      go_roundw
      case rel => exact ⟨y / 128, done ++ [((y % 128 + 128 : Nat) : Int)], by go_num, by omega, by simp; omega, R.1, R.2, HX.out⟩
      case measure => simp [intOf]; omega

theorem refNumber_any (v : Int) (w : World) (hv : -9223372036854775808 ≤ v ∧ v ≤ 9223372036854775807) :
    Calls Tryz.prog 97 #[.int .i64 v] w fun e w' => ∃ a c zs, e = .returned (.tuple #[.slice a zs.length c, .int .i64 (if 0 ≤ v ∧ v ≤ 2147483647 then 0 else 3)]) ∧
      zs = (if 0 ≤ v ∧ v ≤ 2147483647 then numL v.toNat else []) ∧ w'.ownsRow w.heap.size 5 1 (.slice a zs.length c) zs.length (bv zs) ∧ Below w.heap.size w w' := by
  by_cases h : 0 ≤ v ∧ v ≤ 2147483647
  · rw [if_pos h, if_pos h]
    obtain ⟨n, rfl⟩ := Int.eq_ofNat_of_zero_le h.1
    rw [Int.toNat_natCast]
    refine (refNumber_good n w (by omega)).mono ?_
    rintro e w1 ⟨a, c, rfl, ho, hb⟩
    exact ⟨a, c, _, rfl, rfl, ho, hb⟩
  · rw [if_neg h, if_neg h]
    by_cases h0 : v < 0
    · go_enter Tryz.func97, Tryz.ntmps97
      go_wp2
      go_ret2
      exact ⟨none, 0, [], rfl, rfl, World.ownsRow_nil _ _ _ _, Below.refl _ _⟩
    · have h1 : (2147483647 : Int) < v := by omega
      go_enter Tryz.func97, Tryz.ntmps97
      go_wp2
      go_ret2
      exact ⟨none, 0, [], rfl, rfl, World.ownsRow_nil _ _ _ _, Below.refl _ _⟩
end Go.Proofs.YtdjfeomdiljaeaaGreatDoor
namespace Go.Proofs.YtdjfeomdiljaeaaGreatDoor
open Go.RowKit

set_option maxHeartbeats 1600000 in
set_option maxRecDepth 100000 in
theorem refText_any (s : ByteArray) (w : World) (hs : s.size ≤ 1000000) :
    Calls Tryz.prog 166 #[.string s] w fun e w' => ∃ a c, e = .returned (.tuple #[.slice a (textL s).length c, .int .i64 (textC s)]) ∧
      w'.ownsRow w.heap.size 5 1 (.slice a (textL s).length c) (textL s).length (bv (textL s)) ∧ Below w.heap.size w w' := by
  obtain ⟨i0, hi, hz0, hz1, hz2⟩ := info_parts Tryz.info5
  by_cases h : s.size ≤ 262144
  · have e1 : textL s = numL s.size ++ strL s := by unfold textL; rw [if_pos h]
    have e2 : textC s = 0 := by unfold textC; rw [if_pos h]
    rw [e1, e2]
    have hln := (numL_len (v := s.size) 5 (by omega) (by omega)).1
    have hlen : (numL s.size ++ strL s).length = (numL s.size).length + s.size := by rw [List.length_append, strL_len]
    have HC : Hid _ := strL_cells s
    obtain ⟨T, hT⟩ : ∃ T, numL s.size ++ strL s = T := ⟨_, rfl⟩
    rw [hT]
    rw [hT] at hlen
    have HL : Hid _ := hlen
    have HT : Hid _ := hT
    clear e1 e2 hlen hT
    go_enter Tryz.func166, Tryz.ntmps166
    go_wp2_with fail
    refine (refNumber_good s.size w (by omega)).mono ?_
    rintro e w2 ⟨a2, c2, rfl, ho2, hb2⟩
    have HO2 : Hid _ := ho2
    have HB2 : Hid (Below w.heap.size w w2) := hb2
    clear ho2 hb2
    go_wp2_with (first
      | (at_builtin; refine Lib.wpList_append_own_string _ rfl _ _ 25 9 rfl w.heap.size 5 i0 Tryz.underlying25 Tryz.underlying9 hi hz0 hz1 hz2 _ (numL s.size).length (bv (numL s.size)) rfl HO2.out s rfl (by unfold maxLen; omega) (by omega) HB2.out.size ?_; intro v3 w3 hown3 hgrow3 _
         rw [HC.out, ← bv_append, HT.out, ← HL.out] at hown3
         have HB3 : Hid (Below w.heap.size w w3) := HB2.out.grown hgrow3 HB2.out.size (fun k hk => (World.ownsRow.lt HO2.out k hk).1)
         obtain ⟨a3, c3, rfl, -⟩ := bys_of_owns hown3
         have HO3 : Hid _ := hown3
         clear hown3 hgrow3)
      | fail)
    go_ret2
    exact ⟨a3, c3, rfl, HO3.out, HB3.out⟩
  · have e1 : textL s = [] := by unfold textL; rw [if_neg h]
    have e2 : textC s = 2 := by unfold textC; rw [if_neg h]
    rw [e1, e2]
    have h' : (262144 : Int) < (s.size : Int) := by omega
    clear e1 e2
    go_enter Tryz.func166, Tryz.ntmps166
    go_wp2
    go_ret2
    exact ⟨none, 0, rfl, World.ownsRow_nil _ _ _ _, Below.refl _ _⟩
end Go.Proofs.YtdjfeomdiljaeaaGreatDoor
namespace Go.Proofs.YtdjfeomdiljaeaaGreatDoor
open Go.RowKit
set_option linter.unusedVariables false
set_option linter.unusedSimpArgs false

set_option maxHeartbeats 1600000 in
set_option maxRecDepth 100000 in
theorem pg_number (bw : Nat) (v : Value) (xs : List Int) (n : Nat) (w : World) (h : WrAt 73 w bw v xs) (hv : n ≤ 2147483647) (hl : xs.length ≤ 1000000) :
    Calls Tryz.prog 60 #[.pointer (some ⟨bw, 0, none⟩), .int .i64 n] w (WrEnd 73 bw v xs (numL n) w) := by
  have HW : Hid (WrAt 73 w bw v xs) := h
  have hB : bw ≤ w.heap.size := Nat.le_of_lt h.lt
  have HNU : Hid (Calls Tryz.prog 97 #[.int .i64 n] w fun e w' => ∃ a c, e = .returned (.tuple #[.slice a (numL n).length c, .int .i64 0]) ∧ w'.ownsRow w.heap.size 5 1 (.slice a (numL n).length c) (numL n).length (bv (numL n)) ∧ Below w.heap.size w w') := by
    have h1 := refNumber_any (n : Int) w (by omega)
    have hc : (0 : Int) ≤ (n : Int) ∧ (n : Int) ≤ 2147483647 := by omega
    rw [if_pos hc, if_pos hc, Int.toNat_natCast] at h1
    refine Calls.mono h1 ?_
    rintro e w' ⟨a, c, zs, rfl, rfl, h2, h3⟩
    exact ⟨a, c, rfl, h2, h3⟩
  have hnl := numLe hv
  clear h
  go_enter Tryz.func60, Tryz.ntmps60
  go_wp2_with fail
  refine Calls.mono HNU.out ?_
  rintro e w1 ⟨a, c, rfl, ho1, hb1⟩
  obtain ⟨a', c', hv', hby, hnn, _⟩ := bys_of_owns ho1
  cases hv'
  have HB : Hid (WrAt 73 w1 bw v xs) := HW.out.below hb1
  have HZ : Hid (Bys w1 a (numL n)) := hby
  have hB1 : bw ≤ w1.heap.size := Nat.le_of_lt HB.out.lt
  have HB1 : Hid (Below bw w w1) := hb1.mono hB
  have HG1 : Hid (WrF w w1 bw v v) := WrF.of_below hb1
  have b0 := cells_1 HB.out.box
  clear hb1 ho1 hby
  go_wp2_with (first
    | (at_builtin; refine wpList_appB rfl _ _ rfl bw v xs rfl HB.out.row a (numL n).length c (numL n) rfl rfl HZ.out hnn (by omega) hB1 ?_
       intro v1 w2 ho1 hg1 hat1
       have HF1 : Hid (WrF w1 w2 bw v v1) := ⟨(Chg.grown hg1).mono (fun _ _ e => .inr e), fun k hk => by
         rcases hat1 with e | e
         · rw [e] at hk; exact .inl hk
         · rw [e] at hk; cases hk; exact .inr (Nat.le_refl _)⟩
       have HO1 : Hid (w2.ownsRow bw 5 1 v1 (xs ++ numL n).length (bv (xs ++ numL n))) := ho1
       have HX1 : Hid (w2.heap[bw]? = some (.cells #[v] 73 (0, 0))) := by
         show _ = _
         rw [hg1.block bw (lt_of_blk HB.out.box) (fun e => by
           obtain ⟨cur, hc⟩ := owns_kind HB.out.row e.symm
           rw [HB.out.box] at hc
           cases hc)]
         exact HB.out.box
       have HW1 : Hid (Below bw w1 w2) := (Below.refl _ _).grown hg1 hB1 (fun j hj => (HB.out.row.lt j hj).1)
       have c1 := cells_1 HX1.out
       have f1 := free_1 HX1.out
       obtain ⟨va, vc, rfl, _⟩ := bys_of_owns HO1.out
       clear ho1 hg1 hat1)
    | fail)
  have hrow := HO1.out
  refine bodyPost_end (results_none rfl _ _ _) rfl ⟨.slice va (xs ++ numL n).length vc, rfl, ⟨same_blk HX1.out (by rw [List.length_append]; rfl), ?_⟩, (HB1.out.trans HW1.out).setCell (Nat.le_refl _) _, HG1.out.trans ⟨HF1.out.chg.trans ((Chg.set _ _ _).mono (fun _ _ e => .inl e)), fun k hk => HF1.out.own k hk⟩⟩
  refine owns_same hrow (fun j hj => Below.heap_setCell _ _ _ j (fun e => ?_))
  obtain ⟨cur, hc⟩ := owns_kind hrow hj
  rw [show j = bw from e, HX1.out] at hc
  cases hc
set_option maxHeartbeats 1600000 in
set_option maxRecDepth 100000 in
theorem pg_text (bw : Nat) (v : Value) (xs : List Int) (t : ByteArray) (w : World) (h : WrAt 73 w bw v xs) (hv : t.size ≤ 262144) (hl : xs.length ≤ 1000000) :
    Calls Tryz.prog 102 #[.pointer (some ⟨bw, 0, none⟩), .string t] w (WrEnd 73 bw v xs (textL t) w) := by
  have HW : Hid (WrAt 73 w bw v xs) := h
  have hB : bw ≤ w.heap.size := Nat.le_of_lt h.lt
  have HNU : Hid (Calls Tryz.prog 166 #[.string t] w fun e w' => ∃ a c, e = .returned (.tuple #[.slice a (textL t).length c, .int .i64 0]) ∧ w'.ownsRow w.heap.size 5 1 (.slice a (textL t).length c) (textL t).length (bv (textL t)) ∧ Below w.heap.size w w') := by
    have h1 := refText_any t w (by omega)
    rw [show textC t = 0 by unfold textC; rw [if_pos hv]] at h1
    exact h1
  have hnl := textLe hv
  clear h
  go_enter Tryz.func102, Tryz.ntmps102
  go_wp2_with fail
  refine Calls.mono HNU.out ?_
  rintro e w1 ⟨a, c, rfl, ho1, hb1⟩
  obtain ⟨a', c', hv', hby, hnn, _⟩ := bys_of_owns ho1
  cases hv'
  have HB : Hid (WrAt 73 w1 bw v xs) := HW.out.below hb1
  have HZ : Hid (Bys w1 a (textL t)) := hby
  have hB1 : bw ≤ w1.heap.size := Nat.le_of_lt HB.out.lt
  have HB1 : Hid (Below bw w w1) := hb1.mono hB
  have HG1 : Hid (WrF w w1 bw v v) := WrF.of_below hb1
  have b0 := cells_1 HB.out.box
  clear hb1 ho1 hby
  go_wp2_with (first
    | (at_builtin; refine wpList_appB rfl _ _ rfl bw v xs rfl HB.out.row a (textL t).length c (textL t) rfl rfl HZ.out hnn (by omega) hB1 ?_
       intro v1 w2 ho1 hg1 hat1
       have HF1 : Hid (WrF w1 w2 bw v v1) := ⟨(Chg.grown hg1).mono (fun _ _ e => .inr e), fun k hk => by
         rcases hat1 with e | e
         · rw [e] at hk; exact .inl hk
         · rw [e] at hk; cases hk; exact .inr (Nat.le_refl _)⟩
       have HO1 : Hid (w2.ownsRow bw 5 1 v1 (xs ++ textL t).length (bv (xs ++ textL t))) := ho1
       have HX1 : Hid (w2.heap[bw]? = some (.cells #[v] 73 (0, 0))) := by
         show _ = _
         rw [hg1.block bw (lt_of_blk HB.out.box) (fun e => by
           obtain ⟨cur, hc⟩ := owns_kind HB.out.row e.symm
           rw [HB.out.box] at hc
           cases hc)]
         exact HB.out.box
       have HW1 : Hid (Below bw w1 w2) := (Below.refl _ _).grown hg1 hB1 (fun j hj => (HB.out.row.lt j hj).1)
       have c1 := cells_1 HX1.out
       have f1 := free_1 HX1.out
       obtain ⟨va, vc, rfl, _⟩ := bys_of_owns HO1.out
       clear ho1 hg1 hat1)
    | fail)
  have hrow := HO1.out
  refine bodyPost_end (results_none rfl _ _ _) rfl ⟨.slice va (xs ++ textL t).length vc, rfl, ⟨same_blk HX1.out (by rw [List.length_append]; rfl), ?_⟩, (HB1.out.trans HW1.out).setCell (Nat.le_refl _) _, HG1.out.trans ⟨HF1.out.chg.trans ((Chg.set _ _ _).mono (fun _ _ e => .inl e)), fun k hk => HF1.out.own k hk⟩⟩
  refine owns_same hrow (fun j hj => Below.heap_setCell _ _ _ j (fun e => ?_))
  obtain ⟨cur, hc⟩ := owns_kind hrow hj
  rw [show j = bw from e, HX1.out] at hc
  cases hc
end Go.Proofs.YtdjfeomdiljaeaaGreatDoor
