/-
  Unframe in the program.
-/
import Derived.Test.YtdjibjmhjofedacWFirst
import Derived.Lib.LazyBuf
namespace Go.Proofs.Ytdjibjmhjofedac
open Go.RowKit

/-- What Unframe answers. -/
def unfC (xs : List Int) : Int := if xs.length < 10 then 21 else if fcode xs ≠ 0 then fcode xs else if 14 + w4 xs 2 < xs.length then 22 else 0
def unfB (xs : List Int) : List Int := if unfC xs = 0 then (xs.drop 10).take (w4 xs 2) else []

set_option maxHeartbeats 1600000 in
set_option maxRecDepth 100000 in
theorem clone_any (ad : Addr) (c n : Nat) (ys : List Int) (w : World) (hn : n = ys.length) (hx : Bys w (some ad) ys) (hm : ys.length ≤ 1000000) :
    Calls Try.prog 34 #[.slice (some ad) n c] w fun e w' => ∃ a' c', e = .returned (.slice a' n c') ∧ w'.ownsRow w.heap.size 5 1 (.slice a' n c') n (bv ys) ∧ Below w.heap.size w w' := by
  obtain ⟨i0, hi, hz0, hz1, hz2⟩ := info_parts Try.info5
  have HX : Hid (Bys w (some ad) ys) := hx
  have HO : Hid ((w.alloc (.cells #[] 5)).ownsRow w.heap.size 5 1 (.slice (some ⟨w.heap.size, 0, none⟩) 0 0) 0 []) := World.ownsRow_lit w #[] 0 (Nat.le_refl _) (Nat.zero_le _) rfl
  have HB : Hid (Below w.heap.size w (w.alloc (.cells #[] 5))) := (Below.refl _ _).alloc (Nat.le_refl _) _
  have HX1 : Hid (Bys (w.alloc (.cells #[] 5)) (some ad) ys) := hx.below HB.out
  subst hn
  have heq := fun w => Go.run_eql_slice_nil (P := Try.prog) w 26 5 (some ad) ys.length c Try.underlying26
  clear hx
  go_enter Try.func34, Try.ntmps34
  go_wp2_with (first
    | (at_builtin; refine wpList_append_own _ rfl _ _ 26 rfl w.heap.size 5 i0 (.int .u8 0) 1 1 Try.underlying26 hi hz0 hz1 hz2 rfl (by decide) (.slice (some ⟨w.heap.size, 0, none⟩) 0 0) 0 [] rfl HO.out ad ys.length c (bv ys) rfl (by rw [bv_len, Nat.mul_one]) (cells_at HX1.out) (bv_one _) (by unfold maxLen; omega) (by omega) HB.out.size ?_; intro v1 w1 hown1 hgrow1 _
       rw [Nat.zero_add, List.nil_append] at hown1
       obtain ⟨a1, c1, rfl, -⟩ := bys_of_owns hown1
       have HO1 : Hid _ := hown1
       have HB1 : Hid (Below w.heap.size w w1) := HB.out.grown hgrow1 HB.out.size (fun k hk => (World.ownsRow.lt HO.out k hk).1)
       clear hown1 hgrow1)
    | go_in)
  go_ret
  exact ⟨a1, c1, rfl, HO1.out, HB1.out⟩

theorem Bys.drop {w : World} {b o : Nat} {xs : List Int} (h : Bys w (some ⟨b, o, none⟩) xs) (n : Nat) (hlt : b < w.heap.size) : Bys w (some ⟨b, o + n, none⟩) (xs.drop n) := by
  refine .inr ⟨b, o + n, rfl, hlt, fun j z hz => ?_⟩
  rw [List.getElem?_drop] at hz
  rw [Nat.add_assoc]
  exact cells_of h (n + j) z hz

/-- firstBody says an error. -/
theorem first_err (b o c : Nat) (xs : List Int) (w : World) (h10 : 10 ≤ xs.length) (hc : xs.length ≤ c) (hcm : c ≤ maxLen) (hx : Bys w (some ⟨b, o, none⟩) xs) (hb : Byt xs) (hm : xs.length ≤ 1000000) (he : fcode xs ≠ 0) :
    Calls Try.prog 33 #[.slice (some ⟨b, o, none⟩) xs.length c] w fun e w' => e = .returned (.tuple #[.slice none 0 0, .int .i64 (fcode xs)]) ∧ Below w.heap.size w w' := by
  unfold fcode at he ⊢
  by_cases h1 : mkB xs = false
  · rw [if_pos h1]
    exact first_mark b o c xs w h10 hc hcm hx hb hm h1
  · rw [if_neg h1, if_neg (show ¬ xs.length < 10 by omega)] at he ⊢
    have h1' : mkB xs = true := by simpa using h1
    by_cases h2 : crc (xs.take 6) ≠ w4 xs 6
    · rw [if_pos h2]
      exact first_sum b o c xs w h10 hc hcm hx hb hm h1' h2
    · rw [if_neg h2] at he ⊢
      have h2' : crc (xs.take 6) = w4 xs 6 := by simpa using h2
      by_cases h3 : 262144 < w4 xs 2
      · rw [if_pos h3]
        exact first_long b o c xs w h10 hc hcm hx hb hm h1' h2' h3
      · rw [if_neg h3] at he ⊢
        by_cases h4 : xs.length < 14 + w4 xs 2
        · rw [if_pos h4]
          exact first_short b o c xs w h10 hc hcm hx hb hm h1' h2' (by omega) h4
        · rw [if_neg h4] at he ⊢
          by_cases h5 : crc (xs.take (10 + w4 xs 2)) ≠ w4 xs (10 + w4 xs 2)
          · rw [if_pos h5]
            exact first_body b o c xs w h10 hc hcm hx hb hm h1' h2' (by omega) (by omega) h5
          · rw [if_neg h5] at he
            exact absurd rfl he
theorem fcode_ok {xs : List Int} (h : fcode xs = 0) : mkB xs = true ∧ 14 + w4 xs 2 ≤ xs.length ∧ w4 xs 2 ≤ 262144 ∧ crc (xs.take 6) = w4 xs 6 ∧ crc (xs.take (10 + w4 xs 2)) = w4 xs (10 + w4 xs 2) := by
  unfold fcode at h
  split at h
  · cases h
  · rename_i h1
    split at h
    · cases h
    · split at h
      · cases h
      · rename_i h2
        split at h
        · cases h
        · split at h
          · cases h
          · split at h
            · cases h
            · rename_i h3
              exact ⟨by simpa using h1, by omega, by omega, by simpa using h2, by simpa using h3⟩
/-- firstBody finds a body. -/
theorem first_ok (b o c : Nat) (xs : List Int) (w : World) (hc : xs.length ≤ c) (hcm : c ≤ maxLen) (hx : Bys w (some ⟨b, o, none⟩) xs) (hb : Byt xs) (hm : xs.length ≤ 1000000) (he : fcode xs = 0) :
    Calls Try.prog 33 #[.slice (some ⟨b, o, none⟩) xs.length c] w fun e w' => e = .returned (.tuple #[.slice (some ⟨b, o + 10, none⟩) (w4 xs 2) (c - 10), .int .i64 0]) ∧ Below w.heap.size w w' := by
  have h := fcode_ok he
  exact first_good b o c xs w (by omega) hc hcm hx hb hm h.1 h.2.2.2.1 h.2.2.1 h.2.1 h.2.2.2.2

set_option maxHeartbeats 1600000 in
set_option maxRecDepth 100000 in
theorem unframe_any (a : Option Addr) (c : Nat) (xs : List Int) (w : World) (hx : Bys w a xs) (hb : Byt xs) (hc : xs.length ≤ c) (hcm : c ≤ maxLen) (hm : xs.length ≤ 1000000) :
    Calls Try.prog 16 #[.slice a xs.length c] w fun e w' => ∃ a' c', e = .returned (.tuple #[.slice a' (unfB xs).length c', .int .i64 (unfC xs)]) ∧
      w'.ownsRow w.heap.size 5 1 (.slice a' (unfB xs).length c') (unfB xs).length (bv (unfB xs)) ∧ Below w.heap.size w w' := by
  by_cases h10 : xs.length < 10
  · have e1 : unfC xs = 21 := by unfold unfC; rw [if_pos h10]
    have e2 : unfB xs = [] := by unfold unfB; rw [if_neg (by rw [e1]; decide)]
    rw [e1, e2]
    clear e1 e2 hx hb
    go_enter Try.func16, Try.ntmps16
    go_wp2
    go_ret2
    exact ⟨none, 0, rfl, World.ownsRow_nil _ _ _ _, Below.refl _ _⟩
  · rcases hx with rfl | ⟨b, o, rfl, hlt, hs⟩
    · simp at h10
    · have hx : Bys w (some ⟨b, o, none⟩) xs := .inr ⟨b, o, rfl, hlt, hs⟩
      by_cases he : fcode xs = 0
      · have HF : Hid _ := first_ok b o c xs w hc hcm hx hb hm he
        have hk := fcode_ok he
        have hN : w4 xs 2 ≤ 262144 := hk.2.2.1
        have hL : 14 + w4 xs 2 ≤ xs.length := hk.2.1
        have hcat : Bys w (some ⟨b, o + 10, none⟩) ((xs.drop 10).take (w4 xs 2)) := (hx.drop 10 hlt).take _
        have hlen : ((xs.drop 10).take (w4 xs 2)).length = w4 xs 2 := by rw [List.length_take, List.length_drop]; omega
        by_cases hmore : 14 + w4 xs 2 < xs.length
        · have e1 : unfC xs = 22 := by unfold unfC; rw [if_neg h10, if_neg (by simpa using he), if_pos hmore]
          have e2 : unfB xs = [] := by unfold unfB; rw [if_neg (by rw [e1]; decide)]
          rw [e1, e2]
          generalize w4 xs 2 = N at HF hN hL hmore
          clear e1 e2 hx hb hs hk hcat hlen he
          go_enter Try.func16, Try.ntmps16
          go_wp2_with (first | (go_at_call 33; refine Calls.mono HF.out ?_; rintro e w1 ⟨rfl, hb1⟩; have HB1 : Hid _ := hb1; clear hb1) | fail)
          go_ret2
          exact ⟨none, 0, rfl, World.ownsRow_nil _ _ _ _, HB1.out⟩
        · have e1 : unfC xs = 0 := by unfold unfC; rw [if_neg h10, if_neg (by simpa using he), if_neg hmore]
          have e2 : unfB xs = (xs.drop 10).take (w4 xs 2) := by unfold unfB; rw [if_pos e1]
          rw [e1, e2, hlen]
          have HC : Hid _ := hcat
          have HL : Hid _ := hlen
          generalize (xs.drop 10).take (w4 xs 2) = ys at HC HL
          generalize w4 xs 2 = N at HF hN hL hmore HL
          clear e1 e2 hx hb hs hk hcat hlen he
          go_enter Try.func16, Try.ntmps16
          go_wp2_with (first
            | (go_at_call 33; refine Calls.mono HF.out ?_; rintro e w1 ⟨rfl, hb1⟩; have HB1 : Hid _ := hb1; have HC1 : Hid _ := Bys.below HC.out hb1; clear hb1)
            | fail)
          refine (clone_any ⟨b, o + 10, none⟩ (c - 10) N ys w1 HL.out.symm HC1.out (by have := HL.out; omega)).mono ?_
          rintro e w2 ⟨a2, c2, rfl, ho2, hb2⟩
          have HB2 : Hid _ := trans2 HB1.out hb2
          have HO2 : Hid (w2.ownsRow w.heap.size 5 1 (.slice a2 N c2) N (bv ys)) := by
            refine ⟨ho2.1, ho2.2.imp id ?_⟩
            rintro ⟨g, cap, cur, h1, h2, r⟩
            exact ⟨g, cap, cur, h1, Nat.le_trans HB1.out.size h2, r⟩
          clear ho2 hb2
          go_wp2
          go_ret2
          exact ⟨a2, c2, rfl, HO2.out, HB2.out⟩
      · have HF : Hid _ := first_err b o c xs w (by omega) hc hcm hx hb hm he
        have e1 : unfC xs = fcode xs := by unfold unfC; rw [if_neg h10, if_pos he]
        have e2 : unfB xs = [] := by unfold unfB; rw [if_neg (by rw [e1]; exact he)]
        rw [e1, e2]
        have hne : (fcode xs != 0) = true := by simpa using he
        generalize fcode xs = C at HF hne
        clear e1 e2 hx hb hs he
        go_enter Try.func16, Try.ntmps16
        go_wp2_with (first | (go_at_call 33; refine Calls.mono HF.out ?_; rintro e w1 ⟨rfl, hb1⟩; have HB1 : Hid _ := hb1; clear hb1) | fail)
        go_ret2
        exact ⟨none, 0, rfl, World.ownsRow_nil _ _ _ _, HB1.out⟩
end Go.Proofs.Ytdjibjmhjofedac
