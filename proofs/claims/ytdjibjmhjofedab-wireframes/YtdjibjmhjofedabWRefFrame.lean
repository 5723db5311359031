/-
  The document's answer for Frame.
-/
import Derived.Test.YtdjibjmhjofedabWHeaded
namespace Go.Proofs.Ytdjibjmhjofedab
open Go.RowKit

theorem head_form (n : Nat) : [197, 58] ++ fourL n ++ fourL (crc ([197, 58] ++ fourL n)) = headL n := by unfold headL; rfl
theorem frame_form {xs T : List Int} (h : frameL xs = T) : (headL xs.length ++ xs) ++ fourL (crc (headL xs.length ++ xs)) = T := by rw [← h]; unfold frameL; rfl

set_option maxHeartbeats 3200000 in
set_option maxRecDepth 100000 in
theorem refFrame_any (a : Option Addr) (c : Nat) (xs : List Int) (w : World) (hx : Bys w a xs) (hb : Byt xs) (hn : a = none → c = 0) (hm : xs.length ≤ 262144) :
    Calls Try.prog 19 #[.slice a xs.length c] w fun e w' => ∃ a' c', e = .returned (.tuple #[.slice a' (frameL xs).length c', .int .i64 0]) ∧
      w'.ownsRow w.heap.size 5 1 (.slice a' (frameL xs).length c') (frameL xs).length (bv (frameL xs)) ∧ Below w.heap.size w w' := by
  have HX : Hid (Bys w a xs) := hx
  have HN : Hid _ := hn
  have HY : Hid (Byt xs) := hb
  have HO1 : Hid ((w.alloc (.cells #[.int .u8 197, .int .u8 58] 5)).ownsRow w.heap.size 5 1 (.slice (some ⟨w.heap.size, 0, none⟩) 2 2) ([197, 58] : List Int).length (bv [197, 58])) := World.ownsRow_lit w #[.int .u8 197, .int .u8 58] 2 (Nat.le_refl _) (by decide) rfl
  have HB1 : Hid (Below w.heap.size w (w.alloc (.cells #[.int .u8 197, .int .u8 58] 5))) := (Below.refl _ _).alloc (Nat.le_refl _) _
  have hy1 : Byt ([197, 58] ++ fourL xs.length) := mark_byt.append (four_byt (by omega))
  have HY1 : Hid _ := hy1
  have HL1 : Hid (([197, 58] ++ fourL xs.length).length = 6) := rfl
  obtain ⟨T, hT⟩ : ∃ T, frameL xs = T := ⟨_, rfl⟩
  rw [hT]
  have HT : Hid _ := hT
  clear hx hn hb hT
  go_enter Try.func19, Try.ntmps19
  go_wp2_with fail
  generalize World.alloc w _ = w1 at HO1 HB1 ⊢
  refine (four_any xs.length w1 (by omega)).mono ?_
  rintro e w2 ⟨g2, rfl, hx2, hb2⟩
  have HB2 : Hid _ := trans2 HB1.out hb2
  have HO2 : Hid _ := owns_below HO1.out hb2
  have HX2 : Hid _ := hx2
  clear hx2 hb2 HO1 HB1
  go_wp2_with (first | (at_builtin; refine wpList_app rfl _ _ rfl w.heap.size _ [197, 58] rfl HO2.out (some ⟨g2, 0, none⟩) 4 4 (fourL xs.length) rfl rfl HX2.out (fun h => by cases h) (by rw [four_len]; simp) HB2.out.size ?_) | fail)
  intro v3 w3 ho hg
  have ho3 : w3.ownsRow w.heap.size 5 1 v3 ([197, 58] ++ fourL xs.length).length (bv ([197, 58] ++ fourL xs.length)) := by simpa using ho
  have HB3 : Hid (Below w.heap.size w w3) := HB2.out.grown hg HB2.out.size (fun k hk => (World.ownsRow.lt HO2.out k hk).1)
  clear ho hg HO2 HB2 HX2
  have HH1 : Hid ([197, 58] ++ fourL xs.length ++ fourL (crc ([197, 58] ++ fourL xs.length)) = headL xs.length) := head_form xs.length
  generalize [197, 58] ++ fourL xs.length = H1 at ho3 HY1 HL1 hy1 HH1
  obtain ⟨a3, c3, rfl, hbys3, -⟩ := bys_of_owns ho3
  have HO3 : Hid _ := ho3
  have HX3 : Hid _ := hbys3
  clear ho3 hbys3 hy1
  go_wp2_with fail
  refine (refSum_any a3 c3 H1 w3 HX3.out HY1.out (by have := HL1.out; unfold maxLen; omega)).mono ?_
  rintro e w3' ⟨rfl, rfl⟩
  go_wp2_with fail
  refine (four_any (crc H1) _ (crc_lt HY1.out)).mono ?_
  rintro e w4 ⟨g4, rfl, hx4, hb4⟩
  have HB4 : Hid _ := trans2 HB3.out hb4
  have HO4 : Hid _ := owns_below HO3.out hb4
  have HX4 : Hid _ := hx4
  clear hx4 hb4 HO3 HB3 HX3
  go_wp2_with (first | (at_builtin; refine wpList_app rfl _ _ rfl w.heap.size _ H1 rfl HO4.out (some ⟨g4, 0, none⟩) 4 4 (fourL (crc H1)) rfl rfl HX4.out (fun h => by cases h) (by have := HL1.out; rw [four_len]; omega) HB4.out.size ?_) | fail)
  intro v5 w5 ho hg
  have ho5 : w5.ownsRow w.heap.size 5 1 v5 (H1 ++ fourL (crc H1)).length (bv (H1 ++ fourL (crc H1))) := by simpa using ho
  rw [HH1.out] at ho5
  have HB5 : Hid (Below w.heap.size w w5) := HB4.out.grown hg HB4.out.size (fun k hk => (World.ownsRow.lt HO4.out k hk).1)
  have HO5 : Hid _ := ho5
  have HXb : Hid (Bys w5 a xs) := Bys.below HX.out HB5.out
  have HL5 : Hid ((headL xs.length).length = 10) := head_len xs.length
  have HY5 : Hid (Byt (headL xs.length)) := head_byt (by omega)
  have HT5 : Hid ((headL xs.length ++ xs) ++ fourL (crc (headL xs.length ++ xs)) = T) := frame_form HT.out
  generalize headL xs.length = H2 at HO5 HL5 HY5 HT5
  clear ho ho5 hg HO4 HB4 HX4 HH1
  go_wp2_with (first | (at_builtin; refine wpList_app rfl _ _ rfl w.heap.size v5 H2 rfl HO5.out a xs.length c xs rfl rfl HXb.out HN.out (by have := HL5.out; omega) HB5.out.size ?_) | fail)
  intro v6 w6 ho hg
  have ho6 : w6.ownsRow w.heap.size 5 1 v6 (H2 ++ xs).length (bv (H2 ++ xs)) := by simpa using ho
  have HB6 : Hid (Below w.heap.size w w6) := HB5.out.grown hg HB5.out.size (fun k hk => (World.ownsRow.lt HO5.out k hk).1)
  have HY6 : Hid (Byt (H2 ++ xs)) := Byt.append HY5.out HY.out
  have hl6 : (H2 ++ xs).length ≤ 300000 := by have := HL5.out; rw [List.length_append]; omega
  generalize H2 ++ xs = H3 at ho6 HY6 hl6 HT5
  obtain ⟨a6, c6, rfl, hbys6, -⟩ := bys_of_owns ho6
  have HO6 : Hid _ := ho6
  have HX6 : Hid _ := hbys6
  clear ho ho6 hg hbys6 HO5 HB5 HXb
  go_wp2_with fail
  refine (refSum_any a6 c6 H3 w6 HX6.out HY6.out (by unfold maxLen; omega)).mono ?_
  rintro e w6' ⟨rfl, rfl⟩
  go_wp2_with fail
  refine (four_any (crc H3) _ (crc_lt HY6.out)).mono ?_
  rintro e w7 ⟨g7, rfl, hx7, hb7⟩
  have HB7 : Hid _ := trans2 HB6.out hb7
  have HO7 : Hid _ := owns_below HO6.out hb7
  have HX7 : Hid _ := hx7
  clear hx7 hb7 HO6 HB6 HX6
  go_wp2_with (first | (at_builtin; refine wpList_app rfl _ _ rfl w.heap.size _ H3 rfl HO7.out (some ⟨g7, 0, none⟩) 4 4 (fourL (crc H3)) rfl rfl HX7.out (fun h => by cases h) (by rw [four_len]; omega) HB7.out.size ?_) | fail)
  intro v8 w8 ho hg
  have ho8 : w8.ownsRow w.heap.size 5 1 v8 (H3 ++ fourL (crc H3)).length (bv (H3 ++ fourL (crc H3))) := by simpa using ho
  rw [HT5.out] at ho8
  have HB8 : Hid (Below w.heap.size w w8) := HB7.out.grown hg HB7.out.size (fun k hk => (World.ownsRow.lt HO7.out k hk).1)
  obtain ⟨a8, c8, rfl, -⟩ := bys_of_owns ho8
  have HO8 : Hid _ := ho8
  clear ho ho8 hg HO7 HB7 HX7
  go_wp2
  go_ret2
  exact ⟨a8, c8, rfl, HO8.out, HB8.out⟩
end Go.Proofs.Ytdjibjmhjofedab
