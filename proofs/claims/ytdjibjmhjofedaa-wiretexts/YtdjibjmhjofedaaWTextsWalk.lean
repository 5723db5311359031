/-
  WireTexts: the walk.
-/
import Derived.Test.YtdjibjmhjofedaaWText
namespace Go.Proofs.Ytdjibjmhjofedaa
open Go.RowKit

theorem text_ab : textL ⟨#[97, 98]⟩ = [2, 97, 98] := by
  unfold textL
  rw [if_pos (by decide), show (ByteArray.mk #[97, 98]).size = 2 by rfl, numL_small (by omega)]
  rfl
theorem textC_ab : textC ⟨#[97, 98]⟩ = 0 := by rfl
theorem textL_len (s : ByteArray) (h : s.size ≤ 1000000) : (textL s).length ≤ maxLen := by
  unfold textL
  split
  · have := (numL_len (v := s.size) 5 (by omega) (by omega)).1
    rw [List.length_append, strL_len]
    unfold maxLen
    omega
  · simp
theorem bys_row {w : World} {base n c : Nat} {a : Option Addr} {zs : List Int} (h : w.ownsRow base 5 1 (.slice a n c) n (bv zs)) : Bys w a zs ∧ n = zs.length := by
  obtain ⟨a', c', hv, hL, _, hn, _⟩ := bys_of_owns h
  simp only [Value.slice.injEq] at hv
  rw [hv.1]
  exact ⟨hL, hn⟩
theorem zeros_conv {w : World} {base g N : Nat} (h : w.ownsRow base 5 1 (.slice (some ⟨g, 0, none⟩) N N) N (madeCells (Value.int .u8 0).cells (N * 1)).toList) :
    (convert 22 9 (.slice (some ⟨g, 0, none⟩) N N)).run Try.prog w = .ok (.string (strOfNums (List.replicate N 0))) w := by
  refine run_convert_bytes_arg _ 22 5 Try.underlying22 Try.underlying5 g 0 N N (List.replicate N 0) (by simp) (fun i hi => ?_) 9 Try.underlying9
  have e : (madeCells (Value.int .u8 0).cells (N * 1)).toList = List.replicate N (Value.int .u8 0) := by rw [Nat.mul_one]; exact toList_madeCells_one _ _
  rw [e] at h
  rw [Nat.zero_add, World.ownsRow.cellAt h i (by omega)]
  simp [hi]

theorem texts_long (s : ByteArray) (l : Int) (w : World) (hm : s.size ≤ maxLen) (h : 20000 < s.size) :
    Calls Try.prog 4 #[.string s, .int .i64 l] w fun e w' => e = .returned (.bool true) ∧ Below w.heap.size w w' := by
  unfold maxLen at hm
  have h' : (20000 : Int) < (s.size : Int) := by omega
  go_enter Try.func4, Try.ntmps4
  go_wp2
  go_ret
  exact ⟨rfl, Below.refl _ _⟩

set_option maxHeartbeats 1600000 in
set_option maxRecDepth 100000 in
theorem texts_plain (s : ByteArray) (l : Int) (w : World) (h : s.size ≤ 20000) (hl : ¬ (0 ≤ l ∧ l ≤ 3)) :
    Calls Try.prog 4 #[.string s, .int .i64 l] w fun e w' => e = .returned (.bool true) ∧ Below w.heap.size w w' := by
  have HB0 : Hid (Below w.heap.size w w) := Below.refl _ _
  by_cases h0 : 0 ≤ l
  · have h3 : ¬ l ≤ 3 := by omega
    clear hl
    go_enter Try.func4, Try.ntmps4
    go_wp2_with fail
    refine (text_any s _ (by omega)).mono ?_
    rintro e w1 ⟨a1, c1, rfl, ho1, hb1⟩
    have HX1 : Hid (Bys w1 a1 (textL s)) := (bys_row ho1).1
    have HB1 : Hid (Below w.heap.size w w1) := trans2 HB0.out hb1
    have hlm := textL_len s (by omega)
    have HRT : Hid _ := fun w => refText_any s w (by omega)
    clear ho1 hb1
    generalize textL s = T at HX1 hlm HRT ⊢
    generalize textC s = C at HRT ⊢
    go_wp2_with fail
    refine (HRT.out _).mono ?_
    rintro e w2 ⟨a2, c2, rfl, ho2, hb2⟩
    have HX2 : Hid (Bys w2 a1 T) := Bys.below HX1.out hb2
    have HY2 : Hid (Bys w2 a2 T) := (bys_row ho2).1
    have HB2 : Hid (Below w.heap.size w w2) := trans2 HB1.out hb2
    clear ho2 hb2 HX1 HB1
    go_wp2_with fail
    refine (text_any ⟨#[97, 98]⟩ _ (by decide)).mono ?_
    rw [text_ab, textC_ab]
    rintro e w3 ⟨a3, c3, rfl, ho3, hb3⟩
    have HX3 : Hid (Bys w3 a1 T) := Bys.below HX2.out hb3
    have HY3 : Hid (Bys w3 a2 T) := Bys.below HY2.out hb3
    have HB3 : Hid (Below w.heap.size w w3) := trans2 HB2.out hb3
    clear ho3 hb3 HX2 HY2 HB2
    simp only [List.length_cons, List.length_nil]
    go_wp2_with (first
      | (go_at_call 11; refine (same_is HX3.out HY3.out hlm).mono ?_; rw [decide_eq_true rfl]; rintro e w4 ⟨rfl, hb4⟩; have HB4 : Hid _ := trans2 HB3.out hb4; clear hb4)
      | (go_at_call 12; go_in))
    go_ret
    exact ⟨rfl, HB4.out⟩
  · clear hl
    go_enter Try.func4, Try.ntmps4
    go_wp2_with fail
    refine (text_any s _ (by omega)).mono ?_
    rintro e w1 ⟨a1, c1, rfl, ho1, hb1⟩
    have HX1 : Hid (Bys w1 a1 (textL s)) := (bys_row ho1).1
    have HB1 : Hid (Below w.heap.size w w1) := trans2 HB0.out hb1
    have hlm := textL_len s (by omega)
    have HRT : Hid _ := fun w => refText_any s w (by omega)
    clear ho1 hb1
    generalize textL s = T at HX1 hlm HRT ⊢
    generalize textC s = C at HRT ⊢
    go_wp2_with fail
    refine (HRT.out _).mono ?_
    rintro e w2 ⟨a2, c2, rfl, ho2, hb2⟩
    have HX2 : Hid (Bys w2 a1 T) := Bys.below HX1.out hb2
    have HY2 : Hid (Bys w2 a2 T) := (bys_row ho2).1
    have HB2 : Hid (Below w.heap.size w w2) := trans2 HB1.out hb2
    clear ho2 hb2 HX1 HB1
    go_wp2_with fail
    refine (text_any ⟨#[97, 98]⟩ _ (by decide)).mono ?_
    rw [text_ab, textC_ab]
    rintro e w3 ⟨a3, c3, rfl, ho3, hb3⟩
    have HX3 : Hid (Bys w3 a1 T) := Bys.below HX2.out hb3
    have HY3 : Hid (Bys w3 a2 T) := Bys.below HY2.out hb3
    have HB3 : Hid (Below w.heap.size w w3) := trans2 HB2.out hb3
    clear ho3 hb3 HX2 HY2 HB2
    simp only [List.length_cons, List.length_nil]
    go_wp2_with (first
      | (go_at_call 11; refine (same_is HX3.out HY3.out hlm).mono ?_; rw [decide_eq_true rfl]; rintro e w4 ⟨rfl, hb4⟩; have HB4 : Hid _ := trans2 HB3.out hb4; clear hb4)
      | (go_at_call 12; go_in))
    go_ret
    exact ⟨rfl, HB4.out⟩

set_option maxHeartbeats 1600000 in
set_option maxRecDepth 100000 in
theorem texts_zeros (s : ByteArray) (l : Nat) (w : World) (h : s.size ≤ 20000) (hl : l ≤ 3) :
    Calls Try.prog 4 #[.string s, .int .i64 l] w fun e w' => e = .returned (.bool true) ∧ Below w.heap.size w w' := by
  obtain ⟨i0, hi, hz0, hz1, hz2⟩ := info_parts Try.info5
  obtain ⟨N, hN⟩ : ∃ N, 262143 + l - s.size % 2 = N := ⟨_, rfl⟩
  have h0 : (0 : Int) ≤ (l : Int) := by omega
  have h3 : (l : Int) ≤ 3 := by omega
  have HN : Hid _ := hN
  have HS : Hid ((strOfNums (List.replicate N 0)).size = N) := by show (strOfNums (List.replicate N 0)).size = N; rw [strOfNums_size, List.length_replicate]
  clear hN
  go_enter Try.func4, Try.ntmps4
  go_wp2_with (first
    | (at_make; refine wpList_make_full _ rfl _ _ 22 rfl w.heap.size 5 i0 (.int .u8 0) 1 Try.underlying22 hi hz0 hz1 _ _ _ _ N rfl rfl (by have := HN.out; omega) (by have := HN.out; omega) (by rw [hz2]; have := HN.out; omega) (by have := HN.out; unfold maxLen; omega) (Nat.le_refl _) ?_; intro w0 hown0 hgrow0
       have hconv := zeros_conv hown0
       have HB0 : Hid (Below w.heap.size w w0) := (Below.refl _ _).grown hgrow0 (Nat.le_refl _) (fun k hk => by cases hk)
       clear hown0 hgrow0
       generalize strOfNums (List.replicate N 0) = S at hconv HS)
    | fail)
  clear hconv
  have hS : S.size ≤ 1000000 := by have := HN.out; have := HS.out; omega
  go_wp2_with fail
  refine (text_any S _ (by omega)).mono ?_
  rintro e w1 ⟨a1, c1, rfl, ho1, hb1⟩
  have HX1 : Hid (Bys w1 a1 (textL S)) := (bys_row ho1).1
  have HB1 : Hid (Below w.heap.size w w1) := trans2 HB0.out hb1
  have hlm := textL_len S (by omega)
  have HRT : Hid _ := fun w => refText_any S w (by omega)
  clear ho1 hb1
  generalize textL S = T at HX1 hlm HRT ⊢
  generalize textC S = C at HRT ⊢
  go_wp2_with fail
  refine (HRT.out _).mono ?_
  rintro e w2 ⟨a2, c2, rfl, ho2, hb2⟩
  have HX2 : Hid (Bys w2 a1 T) := Bys.below HX1.out hb2
  have HY2 : Hid (Bys w2 a2 T) := (bys_row ho2).1
  have HB2 : Hid (Below w.heap.size w w2) := trans2 HB1.out hb2
  clear ho2 hb2 HX1 HB1
  go_wp2_with fail
  refine (text_any ⟨#[97, 98]⟩ _ (by decide)).mono ?_
  rw [text_ab, textC_ab]
  rintro e w3 ⟨a3, c3, rfl, ho3, hb3⟩
  have HX3 : Hid (Bys w3 a1 T) := Bys.below HX2.out hb3
  have HY3 : Hid (Bys w3 a2 T) := Bys.below HY2.out hb3
  have HB3 : Hid (Below w.heap.size w w3) := trans2 HB2.out hb3
  clear ho3 hb3 HX2 HY2 HB2
  simp only [List.length_cons, List.length_nil]
  go_wp2_with (first
    | (go_at_call 11; refine (same_is HX3.out HY3.out hlm).mono ?_; rw [decide_eq_true rfl]; rintro e w4 ⟨rfl, hb4⟩; have HB4 : Hid _ := trans2 HB3.out hb4; clear hb4)
    | (go_at_call 12; go_in))
  go_ret
  exact ⟨rfl, HB4.out⟩

theorem texts_walk (s : ByteArray) (l : Int) (w : World) (hm : s.size ≤ maxLen) :
    Calls Try.prog 4 #[.string s, .int .i64 l] w fun e w' => e = .returned (.bool true) ∧ Below w.heap.size w w' := by
  by_cases h : s.size ≤ 20000
  · by_cases hl : 0 ≤ l ∧ l ≤ 3
    · obtain ⟨n, rfl⟩ := Int.eq_ofNat_of_zero_le hl.1
      exact texts_zeros s n w h (by omega)
    · exact texts_plain s l w h hl
  · exact texts_long s l w hm (by omega)
end Go.Proofs.Ytdjibjmhjofedaa
