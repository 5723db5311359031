/-
  WireReturns: the walk.
-/
import Derived.Test.YtdjibjmhjofedaaWAwake
import Derived.Test.YtdjibjmhjofedaaWApp
namespace Go.Proofs.Ytdjibjmhjofedaa
open Go.RowKit

theorem str_of (s : ByteArray) : strOfNums (strL s) = s := by
  unfold strOfNums strL
  cases s with
  | mk d =>
    congr 1
    rw [List.map_map]
    have : ((fun n : Int => UInt8.ofNat n.toNat) ∘ fun b : UInt8 => (b.toNat : Int)) = id := by
      funext b
      simp
    rw [this, List.map_id]

/-- What was written is read again: the number. -/
theorem rd_back (p : List Int) (v : Nat) (r : List Int) (hv : v ≤ 2147483647) : rdAny (p.length : Int) (p ++ (numL v ++ r)) = ((v : Int), ((p.length + (numL v).length : Nat) : Int), 0) := by
  unfold rdAny
  rw [if_pos (by rw [List.length_append]; omega), Int.toNat_natCast, List.drop_left]
  have := rd_num (p.length : Int) r 5 0 0 v (by omega) (by omega) (.inl rfl) (by omega)
  rw [this]
  simp
/-- What was written is read again: the text. -/
theorem rt_back (p : List Int) (s : ByteArray) (r : List Int) (hs : s.size ≤ 262144) : rtAny (p.length : Int) (p ++ (textL s ++ r)) = (s, ((p.length + (textL s).length : Nat) : Int), 0) := by
  have e1 : textL s = numL s.size ++ strL s := by unfold textL; rw [if_pos hs]
  have e2 : p ++ (textL s ++ r) = p ++ (numL s.size ++ (strL s ++ r)) := by rw [e1, List.append_assoc]
  have h := rd_back p s.size (strL s ++ r) (by omega)
  rw [← e2] at h
  unfold rtAny
  rw [h]
  simp only [ne_eq, not_true_eq_false, if_false, Int.toNat_natCast]
  have hlen : (p ++ (textL s ++ r)).length = p.length + (numL s.size).length + s.size + r.length := by
    rw [e2, List.length_append, List.length_append, List.length_append, strL_len]
    omega
  rw [if_neg (by omega), if_neg (by rw [hlen]; omega)]
  have hd : (p ++ (textL s ++ r)).drop (p.length + (numL s.size).length) = strL s ++ r := by
    rw [e2, ← List.drop_drop, List.drop_left, List.drop_left]
  rw [hd, ← strL_len s, List.take_left, str_of, e1, List.length_append, strL_len]
  congr 2
  omega

theorem row_none {w : World} {base n c : Nat} {a : Option Addr} {zs : List Int} (h : w.ownsRow base 5 1 (.slice a n c) n (bv zs)) : a = none → c = 0 := by
  obtain ⟨a', c', hv, _, hn, _⟩ := bys_of_owns h
  simp only [Value.slice.injEq] at hv
  rw [hv.1, hv.2.2]
  exact hn

theorem returns_long (v : Int) (s : ByteArray) (a1 a2 : Option Addr) (c1 c2 : Nat) (xs ys : List Int) (w : World) (hs : s.size ≤ maxLen) (hx : xs.length ≤ maxLen) (hy : ys.length ≤ maxLen) (h : 20000 < s.size ∨ 20000 < xs.length ∨ 20000 < ys.length) :
    Calls Try.prog 8 #[.int .i64 v, .string s, .slice a1 xs.length c1, .slice a2 ys.length c2] w fun e w' => e = .returned (.bool true) ∧ Below w.heap.size w w' := by
  unfold maxLen at hs hx hy
  by_cases g1 : 20000 < s.size
  · have h1 : (20000 : Int) < (s.size : Int) := by omega
    clear h
    go_enter Try.func8, Try.ntmps8
    go_wp2_with (first | (go_at_call 24; refine (awake_any w).mono ?_; rintro e w1 ⟨rfl, hb1⟩; have HB1 : Hid _ := hb1; clear hb1) | fail)
    go_ret
    exact ⟨rfl, HB1.out⟩
  · by_cases g2 : 20000 < xs.length
    · have h1 : ¬ (20000 : Int) < (s.size : Int) := by omega
      have h2 : (20000 : Int) < (xs.length : Int) := by omega
      clear h
      go_enter Try.func8, Try.ntmps8
      go_wp2_with (first | (go_at_call 24; refine (awake_any w).mono ?_; rintro e w1 ⟨rfl, hb1⟩; have HB1 : Hid _ := hb1; clear hb1) | fail)
      go_ret
      exact ⟨rfl, HB1.out⟩
    · have h1 : ¬ (20000 : Int) < (s.size : Int) := by omega
      have h2 : ¬ (20000 : Int) < (xs.length : Int) := by omega
      have h3 : (20000 : Int) < (ys.length : Int) := by omega
      clear h
      go_enter Try.func8, Try.ntmps8
      go_wp2_with (first | (go_at_call 24; refine (awake_any w).mono ?_; rintro e w1 ⟨rfl, hb1⟩; have HB1 : Hid _ := hb1; clear hb1) | fail)
      go_ret
      exact ⟨rfl, HB1.out⟩

theorem returns_err (v : Int) (s : ByteArray) (a1 a2 : Option Addr) (c1 c2 : Nat) (xs ys : List Int) (w : World) (hv : -9223372036854775808 ≤ v ∧ v ≤ 9223372036854775807) (hs : s.size ≤ 20000) (hx : xs.length ≤ 20000) (hy : ys.length ≤ 20000) (h : ¬ (0 ≤ v ∧ v ≤ 2147483647)) :
    Calls Try.prog 8 #[.int .i64 v, .string s, .slice a1 xs.length c1, .slice a2 ys.length c2] w fun e w' => e = .returned (.bool true) ∧ Below w.heap.size w w' := by
  have HN : Hid _ := fun w => number_any v w hv
  rw [if_neg h, if_neg h] at HN
  by_cases h0 : v < 0
  · clear h hv
    go_enter Try.func8, Try.ntmps8
    go_wp2_with (first
      | (go_at_call 24; refine (awake_any w).mono ?_; rintro e w1 ⟨rfl, hb1⟩; have HB1 : Hid _ := hb1; clear hb1)
      | (go_at_call 9; refine (HN.out _).mono ?_; rintro e w2 ⟨a, c, zs, rfl, rfl, ho, hb⟩; have HB2 : Hid _ := trans2 HB1.out hb; clear hb ho)
      | fail)
    go_ret
    exact ⟨rfl, HB2.out⟩
  · have h1 : (2147483647 : Int) < v := by omega
    clear h hv
    go_enter Try.func8, Try.ntmps8
    go_wp2_with (first
      | (go_at_call 24; refine (awake_any w).mono ?_; rintro e w1 ⟨rfl, hb1⟩; have HB1 : Hid _ := hb1; clear hb1)
      | (go_at_call 9; refine (HN.out _).mono ?_; rintro e w2 ⟨a, c, zs, rfl, rfl, ho, hb⟩; have HB2 : Hid _ := trans2 HB1.out hb; clear hb ho)
      | fail)
    go_ret
    exact ⟨rfl, HB2.out⟩

set_option maxHeartbeats 3200000 in
set_option maxRecDepth 100000 in
theorem returns_ok (v : Nat) (s : ByteArray) (a1 a2 : Option Addr) (c1 c2 : Nat) (xs ys : List Int) (w : World) (hv : v ≤ 2147483647) (hs : s.size ≤ 20000) (hx : xs.length ≤ 20000) (hy : ys.length ≤ 20000)
    (hx1 : Bys w a1 xs) (hy1 : Byt xs) (hn1 : a1 = none → c1 = 0) (hx2 : Bys w a2 ys) (hy2 : Byt ys) (hn2 : a2 = none → c2 = 0) :
    Calls Try.prog 8 #[.int .i64 v, .string s, .slice a1 xs.length c1, .slice a2 ys.length c2] w fun e w' => e = .returned (.bool true) ∧ Below w.heap.size w w' := by
  have HN : Hid _ := fun w => number_any (v : Int) w (by omega)
  rw [if_pos (by omega), if_pos (by omega), Int.toNat_natCast] at HN
  have HT : Hid _ := fun w => text_any s w (by omega)
  have htc : textC s = 0 := by unfold textC; rw [if_pos (by omega)]
  rw [htc] at HT
  have hnl := (numL_len (v := v) 5 (by omega) (by omega)).1
  have hsl := (numL_len (v := s.size) 5 (by omega) (by omega)).1
  have htl : (textL s).length ≤ 30000 := by unfold textL; rw [if_pos (by omega), List.length_append, strL_len]; omega
  have hRD := rd_back xs v (textL s ++ ys) hv
  have hRT := rt_back (xs ++ numL v) s ys (by omega)
  have hBt : Byt (textL s) := by unfold textL; rw [if_pos (by omega)]; exact (numL_byt _).append (strL_byt s)
  rw [List.length_append, List.append_assoc] at hRT
  have hyD : Byt (xs ++ (numL v ++ (textL s ++ ys))) := hy1.append ((numL_byt v).append (hBt.append hy2))
  have hlD : (xs ++ (numL v ++ (textL s ++ ys))).length = xs.length + (numL v).length + (textL s).length + ys.length := by simp only [List.length_append]; omega
  have HRD : Hid _ := hRD
  have HRT : Hid _ := hRT
  have HYD : Hid _ := hyD
  have HX1 : Hid (Bys w a1 xs) := hx1
  have HX2 : Hid (Bys w a2 ys) := hx2
  have HN1 : Hid _ := hn1
  have HN2 : Hid _ := hn2
  have hss : (s.toList == s.toList) = true := by simp
  clear hRD hRT hyD htc hx1 hx2 hn1 hn2 hsl hBt hy1 hy2
  generalize numL v = NV at *
  generalize textL s = TS at *
  go_enter Try.func8, Try.ntmps8
  go_wp2_with fail
  refine (awake_any w).mono ?_
  rintro e w1 ⟨rfl, hb⟩
  have HB1 : Hid _ := hb
  have HX11 : Hid _ := Bys.below HX1.out hb
  have HX21 : Hid _ := Bys.below HX2.out hb
  clear hb
  go_wp2_with fail
  refine (HN.out _).mono ?_
  rintro e w2 ⟨a, c, zs, rfl, hzs, ho, hb⟩
  obtain rfl := hzs.symm
  have HB2 : Hid _ := trans2 HB1.out hb
  have HX12 : Hid _ := Bys.below HX11.out hb
  have HX22 : Hid _ := Bys.below HX21.out hb
  have HO2 : Hid _ := ho
  clear hb ho hzs
  go_wp2_with fail
  refine (HT.out _).mono ?_
  rintro e w3 ⟨a3, c3, rfl, ho3, hb⟩
  have HB3 : Hid (Below w.heap.size w w3) := trans2 HB2.out hb
  have HX13 : Hid _ := Bys.below HX12.out hb
  have HX23 : Hid _ := Bys.below HX22.out hb
  have HO3 : Hid _ := owns_below HO2.out hb
  have HP3 : Hid _ := ho3
  have HB3s : Hid (Below w3.heap.size w3 w3) := Below.refl _ _
  clear hb ho3
  go_wp2_with (first | (at_builtin; refine wpList_app rfl _ _ rfl w3.heap.size (.slice none 0 0) [] rfl (World.ownsRow_nil _ _ _ _) a1 xs.length c1 xs rfl rfl HX13.out HN1.out (by simp; omega) (Nat.le_refl _) ?_) | fail)
  intro v4 w4 ho hg
  have ho' : w4.ownsRow w3.heap.size 5 1 v4 xs.length (bv xs) := by simpa [Nat.add_assoc] using ho
  have HO4 : Hid _ := ho'
  have HB4 : Hid (Below w3.heap.size w3 w4) := HB3s.out.grown hg (Nat.le_refl _) (fun k hk => by cases hk)
  clear ho ho' hg
  go_wp2_with (first | (at_builtin; refine wpList_app rfl _ _ rfl w3.heap.size v4 xs rfl HO4.out a NV.length c NV rfl rfl (Bys.below (bys_row HO3.out).1 HB4.out) (row_none HO3.out) (by omega) HB4.out.size ?_) | fail)
  intro v5 w5 ho hg
  have ho' : w5.ownsRow w3.heap.size 5 1 v5 (xs ++ NV).length (bv (xs ++ NV)) := by simpa [Nat.add_assoc] using ho
  have HO5 : Hid _ := ho'
  have HB5 : Hid (Below w3.heap.size w3 w5) := HB4.out.grown hg HB4.out.size (fun k hk => (World.ownsRow.lt HO4.out k hk).1)
  clear ho ho' hg
  go_wp2_with (first | (at_builtin; refine wpList_app rfl _ _ rfl w3.heap.size v5 (xs ++ NV) rfl HO5.out a3 TS.length c3 TS rfl rfl (Bys.below (bys_row HP3.out).1 HB5.out) (row_none HP3.out) (by rw [List.length_append]; omega) HB5.out.size ?_) | fail)
  intro v6 w6 ho hg
  have ho' : w6.ownsRow w3.heap.size 5 1 v6 (xs ++ NV ++ TS).length (bv (xs ++ NV ++ TS)) := by simpa [Nat.add_assoc] using ho
  have HO6 : Hid _ := ho'
  have HB6 : Hid (Below w3.heap.size w3 w6) := HB5.out.grown hg HB5.out.size (fun k hk => (World.ownsRow.lt HO5.out k hk).1)
  clear ho ho' hg
  go_wp2_with (first | (at_builtin; refine wpList_app rfl _ _ rfl w3.heap.size v6 (xs ++ NV ++ TS) rfl HO6.out a2 ys.length c2 ys rfl rfl (Bys.below HX23.out HB6.out) HN2.out (by rw [List.length_append, List.length_append]; omega) HB6.out.size ?_) | fail)
  intro v7 w7 ho hg
  have ho : w7.ownsRow w3.heap.size 5 1 v7 (xs ++ (NV ++ (TS ++ ys))).length (bv (xs ++ (NV ++ (TS ++ ys)))) := by simpa [Nat.add_assoc] using ho
  have HB7 : Hid (Below w3.heap.size w3 w7) := HB6.out.grown hg HB6.out.size (fun k hk => (World.ownsRow.lt HO6.out k hk).1)
  obtain ⟨a7, c7, rfl, hx7, -, -, hc7, hm7⟩ := bys_of_owns ho
  have HX7 : Hid _ := hx7
  have HC7 : Hid _ := And.intro hc7 hm7
  clear ho hg hx7 hc7 hm7
  have HW7 : Hid (Below w.heap.size w w7) := trans2 HB3.out HB7.out
  have HRN : Hid _ := readNumber_any a7 c7 (xs ++ (NV ++ (TS ++ ys))) (xs.length : Int) w7 HX7.out HYD.out (by omega)
  have HRTx : Hid _ := readText_any a7 c7 (xs ++ (NV ++ (TS ++ ys))) ((xs.length + NV.length : Nat) : Int) w7 HX7.out HYD.out (by omega) HC7.out.1 HC7.out.2
  rw [HRD.out] at HRN
  rw [HRT.out] at HRTx
  generalize xs ++ (NV ++ (TS ++ ys)) = D at HRN HRTx ⊢
  clear HX7 HC7 HB7 HO6 HB6 HO5 HB5 HO4 HB4 HP3 HO3 HB3s HX13 HX23 HRD HRT
  go_wp2_with fail
  refine Calls.mono HRN.out ?_
  rintro e w8 ⟨rfl, rfl⟩
  go_wp2_with fail
  refine Calls.mono HRTx.out ?_
  rintro e w8 ⟨rfl, rfl⟩
  go_wp2
  go_ret
  exact ⟨rfl, HW7.out⟩

theorem returns_walk (v : Int) (s : ByteArray) (a1 a2 : Option Addr) (c1 c2 : Nat) (xs ys : List Int) (w : World) (hv : -9223372036854775808 ≤ v ∧ v ≤ 9223372036854775807) (hs : s.size ≤ maxLen)
    (h1 : Bys w a1 xs ∧ Byt xs ∧ (a1 = none → c1 = 0) ∧ xs.length ≤ maxLen) (h2 : Bys w a2 ys ∧ Byt ys ∧ (a2 = none → c2 = 0) ∧ ys.length ≤ maxLen) :
    Calls Try.prog 8 #[.int .i64 v, .string s, .slice a1 xs.length c1, .slice a2 ys.length c2] w fun e w' => e = .returned (.bool true) ∧ Below w.heap.size w w' := by
  by_cases h : 20000 < s.size ∨ 20000 < xs.length ∨ 20000 < ys.length
  · exact returns_long v s a1 a2 c1 c2 xs ys w hs h1.2.2.2 h2.2.2.2 h
  · by_cases hr : 0 ≤ v ∧ v ≤ 2147483647
    · obtain ⟨n, rfl⟩ := Int.eq_ofNat_of_zero_le hr.1
      exact returns_ok n s a1 a2 c1 c2 xs ys w (by omega) (by omega) (by omega) (by omega) h1.1 h1.2.1 h1.2.2.1 h2.1 h2.2.1 h2.2.2.1
    · exact returns_err v s a1 a2 c1 c2 xs ys w hv (by omega) (by omega) (by omega) hr
end Go.Proofs.Ytdjibjmhjofedaa
