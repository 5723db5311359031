/-
  WireOnly: the walk.
-/
import Derived.Test.YtdjibjmhjofedabWAwake
namespace Go.Proofs.Ytdjibjmhjofedab
open Go.RowKit

theorem strL_of {ys : List Int} (h : Byt ys) : strL (strOfNums ys) = ys := by
  unfold strL
  rw [strOfNums_data, List.map_map]
  apply List.ext_getElem?
  intro j
  rw [List.getElem?_map]
  cases hj : ys[j]? with
  | none => rfl
  | some z =>
    have hz := h.at hj
    simp only [Option.map_some, Function.comp]
    rw [UInt8.toNat_ofNat']
    congr 1
    omega

/-- What is read as a number is what is written of it. -/
theorem rd_piece {at' : Int} {xs : List Int} {n b : Int} (hb : Byt xs) (h : rdAny at' xs = (n, b, 0)) :
    ∃ A B N : Nat, at' = A ∧ b = B ∧ n = N ∧ A < B ∧ B ≤ xs.length ∧ N ≤ 2147483647 ∧ (xs.drop A).take (B - A) = numL N := by
  have hk := rdAny_ok hb h
  obtain ⟨A, rfl⟩ := Int.eq_ofNat_of_zero_le hk.1
  obtain ⟨N, rfl⟩ := Int.eq_ofNat_of_zero_le hk.2.1
  obtain ⟨B, rfl⟩ := Int.eq_ofNat_of_zero_le (show 0 ≤ b by omega)
  refine ⟨A, B, N, rfl, rfl, rfl, by omega, by omega, by omega, ?_⟩
  have h1 := hk.2.2.2.2.2.1
  have h2 := hk.2.2.2.2.2.2
  simp only [Int.toNat_natCast] at h1 h2
  rw [h1, show B - A = (numL N).length by omega, List.take_left]

/-- What is read as a text is what is written of it. -/
theorem rt_piece {at' : Int} {xs : List Int} {s : ByteArray} {q : Int} (hb : Byt xs) (h : rtAny at' xs = (s, q, 0)) :
    (rdAny at' xs).2.2 = 0 ∧ ∃ A Q : Nat, at' = A ∧ q = Q ∧ A < Q ∧ Q ≤ xs.length ∧ s.size ≤ 262144 ∧ (xs.drop A).take (Q - A) = textL s := by
  obtain ⟨n, b, e, he⟩ : ∃ n b e, rdAny at' xs = (n, b, e) := ⟨_, _, _, rfl⟩
  unfold rtAny at h
  rw [he] at h
  simp only at h
  by_cases h0 : e = 0
  · subst h0
    refine ⟨by rw [he], ?_⟩
    rw [if_neg (by simp)] at h
    split at h
    · simp at h
    · rename_i h1
      split at h
      · simp at h
      · rename_i h2
        simp only [Prod.mk.injEq, and_true] at h
        have hk := rdAny_ok hb he
        obtain ⟨A, B, N, rfl, rfl, rfl, hAB, hBx, hN, hp⟩ := rd_piece hb he
        simp only [Int.toNat_natCast] at h
        have hlen : ((xs.drop B).take N).length = N := by rw [List.length_take, List.length_drop]; omega
        have hs : s.size = N := by rw [← h.1, strOfNums_size, hlen]
        refine ⟨A, B + N, rfl, by rw [← h.2]; simp, by omega, by omega, by omega, ?_⟩
        have e1 : textL s = numL N ++ (xs.drop B).take N := by
          unfold textL
          rw [if_pos (by omega), hs, ← h.1, strL_of ((hb.drop B).take N)]
        have hd := hk.2.2.2.2.2.1
        simp only [Int.toNat_natCast] at hd
        have h2' := hk.2.2.2.2.2.2
        simp only [Int.toNat_natCast] at h2'
        rw [e1, hd, show B + N - A = (numL N).length + N by omega, List.take_length_add_append]
  · rw [if_pos h0] at h
    simp only [Prod.mk.injEq] at h
    exact absurd h.2.2 h0

theorem same_eq {w : World} {a b : Option Addr} {c d n : Nat} {ys : List Int} (hn : n = ys.length) (hx : Bys w a ys) (hy : Bys w b ys) (hm : ys.length ≤ maxLen) :
    Calls Try.prog 12 #[.slice a ys.length c, .slice b n d] w fun e w' => e = .returned (.bool true) ∧ Below w.heap.size w w' := by
  subst hn
  have := same_is (c := c) (d := d) hx hy hm
  rw [decide_eq_true rfl] at this
  exact this
theorem Bys.cut {w : World} {b o : Nat} {xs : List Int} (h : Bys w (some ⟨b, o, none⟩) xs) (A n : Nat) (hlt : b < w.heap.size) : Bys w (some ⟨b, o + A, none⟩) ((xs.drop A).take n) := (h.drop A hlt).take n

theorem only_long (a : Option Addr) (c : Nat) (xs : List Int) (at' : Int) (w : World) (hm : xs.length ≤ maxLen) (h : 20000 < xs.length) :
    Calls Try.prog 3 #[.slice a xs.length c, .int .i64 at'] w fun e w' => e = .returned (.bool true) ∧ Below w.heap.size w w' := by
  unfold maxLen at hm
  have h' : (20000 : Int) < (xs.length : Int) := by omega
  go_enter Try.func3, Try.ntmps3
  go_wp2_with fail
  refine (awake_any w).mono ?_
  rintro e w1 ⟨rfl, hb1⟩
  have HB1 : Hid _ := hb1
  clear hb1
  go_wp2
  go_ret
  exact ⟨rfl, HB1.out⟩

set_option maxHeartbeats 3200000 in
set_option maxRecDepth 100000 in
theorem only_err (a : Option Addr) (c : Nat) (xs : List Int) (at' : Int) (w : World) (hx : Bys w a xs) (hb : Byt xs) (h : xs.length ≤ 20000) (hc : xs.length ≤ c ∧ c ≤ maxLen) (he : (rdAny at' xs).2.2 ≠ 0) :
    Calls Try.prog 3 #[.slice a xs.length c, .int .i64 at'] w fun e w' => e = .returned (.bool true) ∧ Below w.heap.size w w' := by
  have HRN : Hid _ := fun w hx => readNumber_any a c xs at' w hx hb (by omega)
  have HRT : Hid _ := fun w hx => readText_any a c xs at' w hx hb (by omega) hc.1 hc.2
  have e2 : rtAny at' xs = (ByteArray.empty, 0, (rdAny at' xs).2.2) := by unfold rtAny; rw [if_pos he]
  rw [e2] at HRT
  obtain ⟨n, b, e, hE⟩ : ∃ n b e, rdAny at' xs = (n, b, e) := ⟨_, _, _, rfl⟩
  rw [hE] at HRN HRT he
  have hne : (e == 0) = false := by simpa using he
  have HX : Hid _ := hx
  clear hx hb hc e2 hE he
  go_enter Try.func3, Try.ntmps3
  go_wp2_with fail
  refine (awake_any w).mono ?_
  rintro e w1 ⟨rfl, hb1⟩
  have HB1 : Hid _ := hb1
  have HX1 : Hid (Bys w1 a xs) := Bys.below HX.out hb1
  clear hb1
  go_wp2_with fail
  refine (HRN.out _ HX1.out).mono ?_
  rintro e w2 ⟨rfl, rfl⟩
  go_wp2_with fail
  refine (HRT.out _ HX1.out).mono ?_
  rintro e w2 ⟨rfl, rfl⟩
  go_wp2
  go_ret
  exact ⟨rfl, HB1.out⟩

set_option maxHeartbeats 3200000 in
set_option maxRecDepth 100000 in
theorem only_ok (b0 o c : Nat) (xs : List Int) (A B N : Nat) (w : World) (hx : Bys w (some ⟨b0, o, none⟩) xs) (hlt0 : b0 < w.heap.size) (hb : Byt xs) (h : xs.length ≤ 20000) (hc : xs.length ≤ c ∧ c ≤ maxLen) (hE : rdAny A xs = ((N : Int), (B : Int), 0)) (hAB : A < B) (hBx : B ≤ xs.length) (hN : N ≤ 2147483647) (hP : (xs.drop A).take (B - A) = numL N) :
    Calls Try.prog 3 #[.slice (some ⟨b0, o, none⟩) xs.length c, .int .i64 A] w fun e w' => e = .returned (.bool true) ∧ Below w.heap.size w w' := by
  have HRN : Hid _ := fun w hx => readNumber_any (some ⟨b0, o, none⟩) c xs A w hx hb (by omega)
  have HRT : Hid _ := fun w hx => readText_any (some ⟨b0, o, none⟩) c xs A w hx hb (by omega) hc.1 hc.2
  rw [hE] at HRN
  have HX : Hid (Bys w (some ⟨b0, o, none⟩) xs) := hx
  have HY : Hid (Byt xs) := hb
  have HP : Hid _ := hP
  have HC : Hid _ := hc
  have hcx := hc.1
  have hcm := hc.2
  unfold maxLen at hcm
  have HNu : Hid (∀ w, Calls Try.prog 11 #[.int .i64 (N : Int)] w fun e w' => ∃ a c, e = .returned (.tuple #[.slice a (numL N).length c, .int .i64 0]) ∧ Bys w' a (numL N) ∧ Below w.heap.size w w') := fun w => by
    refine (number_any (N : Int) w (by omega)).mono ?_
    rw [if_pos (by omega), if_pos (by omega), Int.toNat_natCast]
    rintro e w' ⟨a, c, zs, rfl, rfl, ho, hb⟩
    exact ⟨a, c, rfl, (bys_row ho).1, hb⟩
  have hnl := (numL_len (v := N) 5 (by omega) (by omega)).1
  have HL : Hid ((numL N).length = B - A) := by show _ = _; rw [← hP, List.length_take, List.length_drop]; omega
  have hb1 : (A : Int) ≤ (B : Int) := by omega
  have hb2 : (B : Int) ≤ (xs.length : Int) := by omega
  have hb3 : (B : Int) ≤ (c : Int) := by omega
  have hb4 : ¬ c - A = 0 := by omega
  obtain ⟨s, q, g, hT⟩ : ∃ s q g, rtAny A xs = (s, q, g) := ⟨_, _, _, rfl⟩
  rw [hT] at HRT
  have HT : Hid _ := hT
  have HLT : Hid _ := hlt0
  clear hx hb hc hP hE hT hlt0
  go_enter Try.func3, Try.ntmps3
  go_wp2_with fail
  refine (awake_any w).mono ?_
  rintro e w1 ⟨rfl, hbb⟩
  have HB1 : Hid _ := hbb
  have HX1 : Hid (Bys w1 (some ⟨b0, o, none⟩) xs) := Bys.below HX.out hbb
  clear hbb
  go_wp2_with fail
  refine (HRN.out _ HX1.out).mono ?_
  rintro e w2 ⟨rfl, rfl⟩
  go_wp2_with fail
  refine (HNu.out _).mono ?_
  rintro e w3 ⟨a3, c3, rfl, hy3, hbb⟩
  have HB3 : Hid _ := trans2 HB1.out hbb
  have HX3 : Hid (Bys w3 (some ⟨b0, o, none⟩) xs) := Bys.below HX1.out hbb
  have HY3 : Hid _ := hy3
  clear hbb hy3
  go_wp2_with fail
  refine (same_eq HL.out.symm HY3.out (by rw [← HP.out]; exact Bys.cut HX3.out A (B - A) (Nat.lt_of_lt_of_le HLT.out HB3.out.size)) (by unfold maxLen; omega)).mono ?_
  rintro e w4 ⟨rfl, hbb⟩
  have HB4 : Hid _ := trans2 HB3.out hbb
  have HX4 : Hid (Bys w4 (some ⟨b0, o, none⟩) xs) := Bys.below HX3.out hbb
  clear hbb HY3 HX3 HB3 HL HNu HP
  generalize Value.slice a3 (numL N).length c3 = u3
  go_wp2_with fail
  refine (HRT.out _ HX4.out).mono ?_
  rintro e w5 ⟨rfl, rfl⟩
  by_cases hg : g = 0
  · subst hg
    obtain ⟨-, A', Q, hA, rfl, hAQ, hQx, hsz, hcut⟩ := rt_piece HY.out HT.out
    obtain rfl : A = A' := by omega
    have HCut : Hid _ := hcut
    have HLt : Hid ((textL s).length = Q - A) := by show _ = _; rw [← hcut, List.length_take, List.length_drop]; omega
    have htl : (textL s).length ≤ 1000000 := by have := HLt.out; omega
    have htc : textC s = 0 := by unfold textC; rw [if_pos hsz]
    have HTx : Hid _ := fun w => text_any s w (by omega)
    rw [htc] at HTx
    have hq1 : (A : Int) ≤ (Q : Int) := by omega
    have hq2 : (Q : Int) ≤ (xs.length : Int) := by omega
    have hq3 : (Q : Int) ≤ (c : Int) := by omega
    clear hcut htc HT
    go_wp2_with fail
    refine (HTx.out _).mono ?_
    rintro e w6 ⟨a6, c6, rfl, ho6, hbb⟩
    have HB6 : Hid _ := trans2 HB4.out hbb
    have HX6 : Hid (Bys w6 (some ⟨b0, o, none⟩) xs) := Bys.below HX4.out hbb
    have HY6 : Hid _ := (bys_row ho6).1
    clear hbb ho6
    go_wp2_with fail
    refine (same_eq HLt.out.symm HY6.out (by rw [← HCut.out]; exact Bys.cut HX6.out A (Q - A) (Nat.lt_of_lt_of_le HLT.out HB6.out.size)) (by unfold maxLen; omega)).mono ?_
    rintro e w7 ⟨rfl, hbb⟩
    have HB7 : Hid _ := trans2 HB6.out hbb
    clear hbb
    go_wp2
    go_ret
    exact ⟨rfl, HB7.out⟩
  · have hne : (g == 0) = false := by simpa using hg
    go_wp2
    go_ret
    exact ⟨rfl, HB4.out⟩

theorem only_walk (a : Option Addr) (c : Nat) (xs : List Int) (at' : Int) (w : World) (h : Bys w a xs ∧ Byt xs ∧ (a = none → c = 0) ∧ xs.length ≤ maxLen) (hc : xs.length ≤ c ∧ c ≤ maxLen) :
    Calls Try.prog 3 #[.slice a xs.length c, .int .i64 at'] w fun e w' => e = .returned (.bool true) ∧ Below w.heap.size w w' := by
  by_cases hl : xs.length ≤ 20000
  · by_cases he : (rdAny at' xs).2.2 = 0
    · obtain ⟨n, b, e, hE⟩ : ∃ n b e, rdAny at' xs = (n, b, e) := ⟨_, _, _, rfl⟩
      rw [hE] at he
      simp only at he
      subst he
      obtain ⟨A, B, N, rfl, rfl, rfl, h1, h2, h3, h4⟩ := rd_piece h.2.1 hE
      rcases h.1 with rfl | ⟨b0, o, rfl, hlt, hs⟩
      · simp at h2; omega
      · exact only_ok b0 o c xs A B N w h.1 hlt h.2.1 hl hc hE h1 h2 h3 h4
    · exact only_err a c xs at' w h.1 h.2.1 hl hc he
  · exact only_long a c xs at' w h.2.2.2 (by omega)
end Go.Proofs.Ytdjibjmhjofedab
