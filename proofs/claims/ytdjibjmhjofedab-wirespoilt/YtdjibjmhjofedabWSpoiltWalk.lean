/-
  WireSpoilt: the walk.
-/
import Derived.Test.YtdjibjmhjofedabWAwake
import Derived.Test.YtdjibjmhjofedabWApp
import Derived.Test.YtdjibjmhjofedabWSpoil
namespace Go.Proofs.Ytdjibjmhjofedab
open Go.RowKit

theorem one_pcs {w : World} {a : Option Addr} {c : Nat} {ys : List Int} (hx : Bys w a ys) (hb : Byt ys) (hn : a = none → c = 0) :
    Pcs (w.alloc (.cells #[.slice a ys.length c] 22)) (some ⟨w.heap.size, 0, none⟩) [(a, c, ys)] := by
  have al : Below w.heap.size w (w.alloc (.cells #[.slice a ys.length c] 22)) := (Below.refl _ _).alloc (Nat.le_refl _) _
  refine ⟨.inr ⟨w.heap.size, 0, rfl, by simp, fun j p hp => ?_⟩, fun p hp => ?_⟩
  · have h := cell_one_new w (.slice a ys.length c) 22 j p.val (by
      match j, hp with
      | 0, h => simp at h; subst h; rfl
      | j + 1, h => simp at h)
    rw [addr_add] at h
    exact h
  · rw [List.mem_singleton] at hp
    subst hp
    exact ⟨hx.below al, hb, hn⟩
theorem one_body (a : Option Addr) (c : Nat) (ys : List Int) : bodyOf [(a, c, ys)] = ys := by simp [bodyOf]
theorem row_set {w : World} {base g cap n k : Nat} {ys : List Int} {y : Int} (h : w.ownsRow base 5 1 (.slice (some ⟨g, 0, none⟩) n cap) n (bv ys)) :
    (w.setCell ⟨g, k, none⟩ (.int .u8 y)).ownsRow base 5 1 (.slice (some ⟨g, 0, none⟩) n cap) n (bv (ys.set k y)) ∧ w.grownBy (w.setCell ⟨g, k, none⟩ (.int .u8 y)) (some g) := by
  have s := World.ownsRow.stored h k (.int .u8 y)
  refine ⟨?_, s.2⟩
  have e : bv (ys.set k y) = (bv ys).set k (.int .u8 y) := by unfold bv; rw [← List.map_set]
  rw [e]
  exact s.1
theorem same_any' {w : World} {a b : Option Addr} {c d : Nat} {ys : List Int} (hx : Bys w a ys) (hy : Bys w b ys) (hm : ys.length ≤ maxLen) :
    Calls Try.prog 12 #[.slice a ys.length c, .slice b ys.length d] w fun e w' => e = .returned (.bool true) ∧ Below w.heap.size w w' := by
  have := same_is (c := c) (d := d) hx hy hm
  rw [decide_eq_true rfl] at this
  exact this
theorem Byt.set {ys : List Int} {k : Nat} {y : Int} (h : Byt ys) (hy : 0 ≤ y ∧ y < 256) : Byt (ys.set k y) := by
  intro z hz
  rcases List.mem_or_eq_of_mem_set hz with g | rfl
  · exact h z g
  · exact hy
theorem xor_byte {x t : Int} (hx : 0 ≤ x ∧ x < 256) (ht : 0 ≤ t ∧ t ≤ 255) (h0 : t ≠ 0) : ∃ y, bits .xor .u8 x t = y ∧ (0 ≤ y ∧ y < 256) ∧ x ≠ y := by
  have e := u8_xor x t hx.1 hx.2 ht.1 (by omega)
  refine ⟨_, e, ?_, ?_⟩
  · have : x.toNat ^^^ t.toNat < 2 ^ 8 := Nat.xor_lt_two_pow (by omega) (by omega)
    omega
  · intro h
    have hn : x.toNat = x.toNat ^^^ t.toNat := by omega
    have : x.toNat ^^^ 0 = x.toNat ^^^ t.toNat := by rw [Nat.xor_zero]; exact hn
    have := xor_lc this
    omega
/-- Unframe of the first bytes of a list. -/
theorem unframe_n {a : Option Addr} {c n : Nat} {xs : List Int} {C : Int} (hn : n = xs.length) (hC : unfC xs = C) (hC0 : C ≠ 0) {w : World} (hx : Bys w a xs) (hb : Byt xs) (hc : n ≤ c) (hcm : c ≤ maxLen) (hm : n ≤ 1000000) :
    Calls Try.prog 16 #[.slice a n c] w fun e w' => ∃ a' c', e = .returned (.tuple #[.slice a' 0 c', .int .i64 C]) ∧ Below w.heap.size w w' := by
  subst hn
  have := unframe_any a c xs w hx hb hc hcm hm
  rw [unfB_err (by rw [hC]; exact hC0), hC] at this
  refine this.mono ?_
  rintro e w' ⟨a', c', rfl, _, hb⟩
  exact ⟨a', c', rfl, hb⟩

theorem spoilt_long (a : Option Addr) (c : Nat) (xs : List Int) (p q : Int) (t : Int) (w : World) (hm : xs.length ≤ maxLen) (h : 20000 < xs.length) :
    Calls Try.prog 4 #[.slice a xs.length c, .int .i64 p, .int .u8 t, .int .i64 q] w fun e w' => e = .returned (.bool true) ∧ Below w.heap.size w w' := by
  unfold maxLen at hm
  have h' : (20000 : Int) < (xs.length : Int) := by omega
  go_enter Try.func4, Try.ntmps4
  go_wp2_with (first | (go_at_call 9; refine (awake_any w).mono ?_; rintro e w1 ⟨rfl, hb1⟩; have HB1 : Hid _ := hb1; clear hb1) | fail)
  go_ret
  exact ⟨rfl, HB1.out⟩

set_option maxHeartbeats 6400000 in
set_option maxRecDepth 100000 in
theorem spoilt_pp (a : Option Addr) (c : Nat) (xs : List Int) (P0 : Nat) (hpl : P0 ≤ 9223372036854775807) (Q0 : Nat) (hql : Q0 ≤ 9223372036854775807) (t : Int) (ht : 0 ≤ t ∧ t ≤ 255) (w : World) (hx : Bys w a xs) (hb : Byt xs) (hn : a = none → c = 0) (h : xs.length ≤ 20000) :
    Calls Try.prog 4 #[.slice a xs.length c, .int .i64 (P0 : Int), .int .u8 t, .int .i64 (Q0 : Int)] w fun e w' => e = .returned (.bool true) ∧ Below w.heap.size w w' := by
  obtain ⟨i0, hi, hz0, hz1, hz2⟩ := info_parts Try.info5
  have HX : Hid (Bys w a xs) := hx
  have HY : Hid (Byt xs) := hb
  have HN : Hid _ := hn
  obtain ⟨A, hA⟩ : ∃ A, P0 % (xs.length + 14) = A := ⟨_, rfl⟩
  obtain ⟨K, hK⟩ : ∃ K, Q0 % (xs.length + 14) = K := ⟨_, rfl⟩
  have hAlt : A < xs.length + 14 := by rw [← hA]; exact Nat.mod_lt _ (by omega)
  have hKlt : K < xs.length + 14 := by rw [← hK]; exact Nat.mod_lt _ (by omega)
  have hAi : (P0 : Int) % ((xs.length : Int) + 14) = (A : Int) := by rw [← hA]; simp
  have hKi : (Q0 : Int) % ((xs.length : Int) + 14) = (K : Int) := by rw [← hK]; simp
  have hAt : (P0 : Int).tmod ((xs.length : Int) + 14) = (A : Int) := by rw [Int.tmod_eq_emod_of_nonneg (by omega)]; exact hAi
  have hKt : (Q0 : Int).tmod ((xs.length : Int) + 14) = (K : Int) := by rw [Int.tmod_eq_emod_of_nonneg (by omega)]; exact hKi
  have HT : Hid _ := ht
  clear hx hb hn hA hK
  go_enter Try.func4, Try.ntmps4
  go_wp2_with fail
  refine (awake_any w).mono ?_
  rintro e w1 ⟨rfl, hb1⟩
  have HB1 : Hid (Below w.heap.size w w1) := hb1
  have HX1 : Hid (Bys w1 a xs) := HX.out.below hb1
  clear hb1
  have HP : Hid _ := one_pcs (w := w1) HX1.out HY.out HN.out
  have HB2 : Hid (Below w.heap.size w (w1.alloc (.cells #[.slice a xs.length c] 22))) := HB1.out.alloc HB1.out.size _
  have HX2 : Hid (Bys (w1.alloc (.cells #[.slice a xs.length c] 22)) a xs) := Bys.below HX1.out ((Below.refl _ _).alloc (Nat.le_refl _) _)
  have HF : Hid _ := frame_any (some ⟨w1.heap.size, 0, none⟩) 1 [(a, c, xs)] _ HP.out (by rw [one_body]; omega) (by simp)
  rw [one_body, frame_len] at HF
  have hFb : Byt (frameL xs) := frame_byt HY.out (by omega)
  have HFb : Hid _ := hFb
  have HFl : Hid ((frameL xs).length = xs.length + 14) := frame_len xs
  have hcut : unfC ((frameL xs).take K) = 21 := unf_cut (by omega) (by rw [frame_len]; exact hKlt)
  have hmore : unfC (frameL xs ++ [t]) = 22 := unf_more HY.out (by omega) t
  have hgood := unf_frame HY.out (show xs.length ≤ 262144 by omega)
  have HU1 : Hid _ := fun a c w hx h1 h2 => unframe_any a c (frameL xs) w hx hFb h1 h2 (by rw [frame_len]; omega)
  rw [hgood.1, hgood.2, frame_len] at HU1
  have HCut : Hid _ := hcut
  have HMore : Hid _ := hmore
  have HTurn : Hid (∀ x y, (frameL xs)[A]? = some x → (0 ≤ y ∧ y < 256) → x ≠ y → unfC ((frameL xs).set A y) = 22) := fun x y h1 h2 h3 => unf_turned HY.out (by omega) h1 h2 h3
  clear hcut hmore hgood hFb HP
  generalize frameL xs = F at *
  go_wp2_with fail
  generalize World.alloc w1 _ = w2 at HB2 HX2 HF ⊢
  refine Calls.mono HF.out ?_
  rintro e w3 ⟨a3, c3, rfl, ho3, hb3⟩
  obtain ⟨gf, cf, hvf, hcf1, hcf2⟩ := form_of ho3 (by omega)
  simp only [Value.slice.injEq, true_and] at hvf
  obtain ⟨rfl, rfl⟩ := hvf
  have HO3 : Hid _ := ho3
  have HB3 : Hid (Below w.heap.size w w3) := trans2 HB2.out hb3
  have HX3 : Hid (Bys w3 a xs) := Bys.below HX2.out hb3
  have HCf : Hid _ := And.intro hcf1 hcf2
  have HS2 : Hid (w.heap.size ≤ w2.heap.size) := HB2.out.size
  have hcfi : ((xs.length : Int) + 14) ≤ (c3 : Int) := by omega
  unfold maxLen at hcf2
  clear ho3 hb3 HF HB1 HX1 HB2 HX2 hcf1
  go_wp2_with fail
  refine (HU1.out (some ⟨gf, 0, none⟩) c3 w3 (bys_row HO3.out).1 HCf.out.1 HCf.out.2).mono ?_
  rintro e w4 ⟨a4, c4, rfl, ho4, hb4⟩
  have HO4 : Hid _ := owns_below HO3.out hb4
  have HB4 : Hid (Below w.heap.size w w4) := trans2 HB3.out hb4
  have HX4 : Hid (Bys w4 a xs) := Bys.below HX3.out hb4
  have HY4 : Hid (Bys w4 a4 xs) := (bys_row ho4).1
  clear ho4 hb4 HO3 HB3 HX3 HU1
  go_wp2_with fail
  refine (same_any' HY4.out HX4.out (by unfold maxLen; omega)).mono ?_
  rintro e w5 ⟨rfl, hb5⟩
  have HO5 : Hid _ := owns_below HO4.out hb5
  have HB5 : Hid (Below w.heap.size w w5) := trans2 HB4.out hb5
  clear hb5 HO4 HB4 HX4 HY4
  have hKc : (K : Int) ≤ (c3 : Int) := by omega
  go_wp2_with fail
  refine (unframe_n (xs := F.take K) (by rw [List.length_take, HFl.out]; omega) HCut.out (by decide) (Bys.take (bys_row HO5.out).1 K) (Byt.take HFb.out K) (by have := HCf.out.1; omega) HCf.out.2 (by omega)).mono ?_
  rintro e w6 ⟨a6, c6, rfl, hb6⟩
  have HO6 : Hid _ := owns_below HO5.out hb6
  have HB6 : Hid (Below w.heap.size w w6) := trans2 HB5.out hb6
  clear hb6 HO5 HB5
  have HB6s : Hid (Below w6.heap.size w6 w6) := Below.refl _ _
  go_wp2_with (first | (at_builtin; refine wpList_app rfl _ _ rfl w6.heap.size (.slice none 0 0) [] rfl (World.ownsRow_nil _ _ _ _) (some ⟨gf, 0, none⟩) (xs.length + 14) c3 F rfl HFl.out.symm (bys_row HO6.out).1 (fun h => by cases h) (by have := HFl.out; simp; omega) (Nat.le_refl _) ?_) | fail)
  intro v7 w7 ho hg
  have ho7 : w7.ownsRow w6.heap.size 5 1 v7 F.length (bv F) := by simpa using ho
  have HO7 : Hid _ := ho7
  have HB7 : Hid (Below w6.heap.size w6 w7) := HB6s.out.grown hg (Nat.le_refl _) (fun k hk => by cases hk)
  clear ho ho7 hg HB6s
  go_wp2_with (first | (at_builtin; refine wpList_append_own _ rfl _ _ 22 rfl w6.heap.size 5 i0 (.int .u8 0) 1 1 Try.underlying22 hi hz0 hz1 hz2 rfl (by decide) v7 F.length (bv F) rfl (World.ownsRow.alloc HO7.out _) ⟨w7.heap.size, 0, none⟩ 1 1 [.int .u8 t] rfl rfl (cell_one_new _ _ _) (fun x hx => by simp at hx; subst hx; rfl) (by have := HFl.out; unfold maxLen; omega) (by have := HFl.out; omega) (by have := HB7.out.size; simp; omega) ?_) | fail)
  intro v8 w8 ho hg _
  have R := rel_app HO7.out HB7.out (Nat.le_refl _) (by simpa using ho) (by simpa using hg)
  have HB8 : Hid (Below w6.heap.size w6 w8) := R.2
  obtain ⟨a8, c8, rfl, hx8, -, -, hc8, hm8⟩ := bys_of_owns R.1
  have HX8 : Hid _ := hx8
  have HC8 : Hid _ := And.intro hc8 hm8
  have HLm : Hid ((F ++ [t]).length = xs.length + 15) := by show _ = _; rw [List.length_append, HFl.out]; rfl
  clear ho hg R hx8 hc8 hm8 HO7 HB7
  go_wp2_with fail
  refine (unframe_n (xs := F ++ [t]) (by simp) HMore.out (by decide) HX8.out (Byt.append HFb.out (by intro z hz; rw [List.mem_singleton] at hz; have := HT.out; omega)) (by simpa using HC8.out.1) HC8.out.2 (by have := HFl.out; simp; omega)).mono ?_
  rintro e w9 ⟨a9, c9, rfl, hb9⟩
  have HB9s : Hid (Below w6.heap.size w6 w9) := trans2 HB8.out hb9
  have HB9 : Hid (Below w.heap.size w w9) := trans2 HB6.out HB9s.out
  have HO9 : Hid _ := owns_below HO6.out HB9s.out
  clear hb9 HX8 HC8 HB8 HO6 HLm HB9s
  by_cases h0 : t = 0
  · subst h0
    go_wp2
    go_ret
    exact ⟨rfl, HB9.out⟩
  · have h0' : (t == 0) = false := by simpa using h0
    obtain ⟨x, hx⟩ : ∃ x, F[A]? = some x := ⟨F[A]'(by have := HFl.out; omega), List.getElem?_eq_getElem _⟩
    have hcx := cells_of (bys_row HO9.out).1 A x hx
    rw [Nat.zero_add] at hcx
    have hfx := World.ownsRow.frozenAt HO9.out A
    obtain ⟨y, hxor, hyb, hxy⟩ := xor_byte (Byt.at HFb.out hx) HT.out h0
    have hset := row_set (k := A) (y := y) HO9.out
    have hTn := HTurn.out x y hx hyb hxy
    have HTn : Hid _ := hTn
    have HO10 : Hid _ := hset.1
    have HB10 : Hid (Below w.heap.size w (w9.setCell ⟨gf, A, none⟩ (.int .u8 y))) := HB9.out.grown hset.2 HB9.out.size (fun k hk => by cases hk; exact Nat.le_trans HS2.out (World.ownsRow.lt HO9.out gf rfl).1)
    have HFb2 : Hid (Byt (F.set A y)) := Byt.set HFb.out hyb
    have HFl2 : Hid ((F.set A y).length = xs.length + 14) := by show _ = _; rw [List.length_set]; exact HFl.out
    have hAi2 : (A : Int) < (xs.length : Int) + 14 := by omega
    clear hset hTn hx hyb hxy h0 HTurn
    go_wp2_with fail
    refine (unframe_n (xs := F.set A y) HFl2.out.symm HTn.out (by decide) (bys_row HO10.out).1 HFb2.out HCf.out.1 HCf.out.2 (by omega)).mono ?_
    rintro e w11 ⟨a11, c11, rfl, hb11⟩
    have HB11 : Hid (Below w.heap.size w w11) := trans2 HB10.out hb11
    clear hb11
    go_wp2
    go_ret
    exact ⟨rfl, HB11.out⟩

set_option maxHeartbeats 6400000 in
set_option maxRecDepth 100000 in
theorem spoilt_np (a : Option Addr) (c : Nat) (xs : List Int) (p : Int) (P0 : Nat) (hp : p < 0) (hp1 : -(p + 1) = (P0 : Int)) (hpl : -9223372036854775808 ≤ p) (Q0 : Nat) (hql : Q0 ≤ 9223372036854775807) (t : Int) (ht : 0 ≤ t ∧ t ≤ 255) (w : World) (hx : Bys w a xs) (hb : Byt xs) (hn : a = none → c = 0) (h : xs.length ≤ 20000) :
    Calls Try.prog 4 #[.slice a xs.length c, .int .i64 p, .int .u8 t, .int .i64 (Q0 : Int)] w fun e w' => e = .returned (.bool true) ∧ Below w.heap.size w w' := by
  obtain ⟨i0, hi, hz0, hz1, hz2⟩ := info_parts Try.info5
  have HX : Hid (Bys w a xs) := hx
  have HY : Hid (Byt xs) := hb
  have HN : Hid _ := hn
  obtain ⟨A, hA⟩ : ∃ A, P0 % (xs.length + 14) = A := ⟨_, rfl⟩
  obtain ⟨K, hK⟩ : ∃ K, Q0 % (xs.length + 14) = K := ⟨_, rfl⟩
  have hAlt : A < xs.length + 14 := by rw [← hA]; exact Nat.mod_lt _ (by omega)
  have hKlt : K < xs.length + 14 := by rw [← hK]; exact Nat.mod_lt _ (by omega)
  have hAi : (P0 : Int) % ((xs.length : Int) + 14) = (A : Int) := by rw [← hA]; simp
  have hKi : (Q0 : Int) % ((xs.length : Int) + 14) = (K : Int) := by rw [← hK]; simp
  have hAt : (P0 : Int).tmod ((xs.length : Int) + 14) = (A : Int) := by rw [Int.tmod_eq_emod_of_nonneg (by omega)]; exact hAi
  have hKt : (Q0 : Int).tmod ((xs.length : Int) + 14) = (K : Int) := by rw [Int.tmod_eq_emod_of_nonneg (by omega)]; exact hKi
  have HT : Hid _ := ht
  clear hx hb hn hA hK
  go_enter Try.func4, Try.ntmps4
  go_wp2_with fail
  refine (awake_any w).mono ?_
  rintro e w1 ⟨rfl, hb1⟩
  have HB1 : Hid (Below w.heap.size w w1) := hb1
  have HX1 : Hid (Bys w1 a xs) := HX.out.below hb1
  clear hb1
  have HP : Hid _ := one_pcs (w := w1) HX1.out HY.out HN.out
  have HB2 : Hid (Below w.heap.size w (w1.alloc (.cells #[.slice a xs.length c] 22))) := HB1.out.alloc HB1.out.size _
  have HX2 : Hid (Bys (w1.alloc (.cells #[.slice a xs.length c] 22)) a xs) := Bys.below HX1.out ((Below.refl _ _).alloc (Nat.le_refl _) _)
  have HF : Hid _ := frame_any (some ⟨w1.heap.size, 0, none⟩) 1 [(a, c, xs)] _ HP.out (by rw [one_body]; omega) (by simp)
  rw [one_body, frame_len] at HF
  have hFb : Byt (frameL xs) := frame_byt HY.out (by omega)
  have HFb : Hid _ := hFb
  have HFl : Hid ((frameL xs).length = xs.length + 14) := frame_len xs
  have hcut : unfC ((frameL xs).take K) = 21 := unf_cut (by omega) (by rw [frame_len]; exact hKlt)
  have hmore : unfC (frameL xs ++ [t]) = 22 := unf_more HY.out (by omega) t
  have hgood := unf_frame HY.out (show xs.length ≤ 262144 by omega)
  have HU1 : Hid _ := fun a c w hx h1 h2 => unframe_any a c (frameL xs) w hx hFb h1 h2 (by rw [frame_len]; omega)
  rw [hgood.1, hgood.2, frame_len] at HU1
  have HCut : Hid _ := hcut
  have HMore : Hid _ := hmore
  have HTurn : Hid (∀ x y, (frameL xs)[A]? = some x → (0 ≤ y ∧ y < 256) → x ≠ y → unfC ((frameL xs).set A y) = 22) := fun x y h1 h2 h3 => unf_turned HY.out (by omega) h1 h2 h3
  clear hcut hmore hgood hFb HP
  generalize frameL xs = F at *
  go_wp2_with fail
  generalize World.alloc w1 _ = w2 at HB2 HX2 HF ⊢
  refine Calls.mono HF.out ?_
  rintro e w3 ⟨a3, c3, rfl, ho3, hb3⟩
  obtain ⟨gf, cf, hvf, hcf1, hcf2⟩ := form_of ho3 (by omega)
  simp only [Value.slice.injEq, true_and] at hvf
  obtain ⟨rfl, rfl⟩ := hvf
  have HO3 : Hid _ := ho3
  have HB3 : Hid (Below w.heap.size w w3) := trans2 HB2.out hb3
  have HX3 : Hid (Bys w3 a xs) := Bys.below HX2.out hb3
  have HCf : Hid _ := And.intro hcf1 hcf2
  have HS2 : Hid (w.heap.size ≤ w2.heap.size) := HB2.out.size
  have hcfi : ((xs.length : Int) + 14) ≤ (c3 : Int) := by omega
  unfold maxLen at hcf2
  clear ho3 hb3 HF HB1 HX1 HB2 HX2 hcf1
  go_wp2_with fail
  refine (HU1.out (some ⟨gf, 0, none⟩) c3 w3 (bys_row HO3.out).1 HCf.out.1 HCf.out.2).mono ?_
  rintro e w4 ⟨a4, c4, rfl, ho4, hb4⟩
  have HO4 : Hid _ := owns_below HO3.out hb4
  have HB4 : Hid (Below w.heap.size w w4) := trans2 HB3.out hb4
  have HX4 : Hid (Bys w4 a xs) := Bys.below HX3.out hb4
  have HY4 : Hid (Bys w4 a4 xs) := (bys_row ho4).1
  clear ho4 hb4 HO3 HB3 HX3 HU1
  go_wp2_with fail
  refine (same_any' HY4.out HX4.out (by unfold maxLen; omega)).mono ?_
  rintro e w5 ⟨rfl, hb5⟩
  have HO5 : Hid _ := owns_below HO4.out hb5
  have HB5 : Hid (Below w.heap.size w w5) := trans2 HB4.out hb5
  clear hb5 HO4 HB4 HX4 HY4
  have hKc : (K : Int) ≤ (c3 : Int) := by omega
  go_wp2_with fail
  refine (unframe_n (xs := F.take K) (by rw [List.length_take, HFl.out]; omega) HCut.out (by decide) (Bys.take (bys_row HO5.out).1 K) (Byt.take HFb.out K) (by have := HCf.out.1; omega) HCf.out.2 (by omega)).mono ?_
  rintro e w6 ⟨a6, c6, rfl, hb6⟩
  have HO6 : Hid _ := owns_below HO5.out hb6
  have HB6 : Hid (Below w.heap.size w w6) := trans2 HB5.out hb6
  clear hb6 HO5 HB5
  have HB6s : Hid (Below w6.heap.size w6 w6) := Below.refl _ _
  go_wp2_with (first | (at_builtin; refine wpList_app rfl _ _ rfl w6.heap.size (.slice none 0 0) [] rfl (World.ownsRow_nil _ _ _ _) (some ⟨gf, 0, none⟩) (xs.length + 14) c3 F rfl HFl.out.symm (bys_row HO6.out).1 (fun h => by cases h) (by have := HFl.out; simp; omega) (Nat.le_refl _) ?_) | fail)
  intro v7 w7 ho hg
  have ho7 : w7.ownsRow w6.heap.size 5 1 v7 F.length (bv F) := by simpa using ho
  have HO7 : Hid _ := ho7
  have HB7 : Hid (Below w6.heap.size w6 w7) := HB6s.out.grown hg (Nat.le_refl _) (fun k hk => by cases hk)
  clear ho ho7 hg HB6s
  go_wp2_with (first | (at_builtin; refine wpList_append_own _ rfl _ _ 22 rfl w6.heap.size 5 i0 (.int .u8 0) 1 1 Try.underlying22 hi hz0 hz1 hz2 rfl (by decide) v7 F.length (bv F) rfl (World.ownsRow.alloc HO7.out _) ⟨w7.heap.size, 0, none⟩ 1 1 [.int .u8 t] rfl rfl (cell_one_new _ _ _) (fun x hx => by simp at hx; subst hx; rfl) (by have := HFl.out; unfold maxLen; omega) (by have := HFl.out; omega) (by have := HB7.out.size; simp; omega) ?_) | fail)
  intro v8 w8 ho hg _
  have R := rel_app HO7.out HB7.out (Nat.le_refl _) (by simpa using ho) (by simpa using hg)
  have HB8 : Hid (Below w6.heap.size w6 w8) := R.2
  obtain ⟨a8, c8, rfl, hx8, -, -, hc8, hm8⟩ := bys_of_owns R.1
  have HX8 : Hid _ := hx8
  have HC8 : Hid _ := And.intro hc8 hm8
  have HLm : Hid ((F ++ [t]).length = xs.length + 15) := by show _ = _; rw [List.length_append, HFl.out]; rfl
  clear ho hg R hx8 hc8 hm8 HO7 HB7
  go_wp2_with fail
  refine (unframe_n (xs := F ++ [t]) (by simp) HMore.out (by decide) HX8.out (Byt.append HFb.out (by intro z hz; rw [List.mem_singleton] at hz; have := HT.out; omega)) (by simpa using HC8.out.1) HC8.out.2 (by have := HFl.out; simp; omega)).mono ?_
  rintro e w9 ⟨a9, c9, rfl, hb9⟩
  have HB9s : Hid (Below w6.heap.size w6 w9) := trans2 HB8.out hb9
  have HB9 : Hid (Below w.heap.size w w9) := trans2 HB6.out HB9s.out
  have HO9 : Hid _ := owns_below HO6.out HB9s.out
  clear hb9 HX8 HC8 HB8 HO6 HLm HB9s
  by_cases h0 : t = 0
  · subst h0
    go_wp2
    go_ret
    exact ⟨rfl, HB9.out⟩
  · have h0' : (t == 0) = false := by simpa using h0
    obtain ⟨x, hx⟩ : ∃ x, F[A]? = some x := ⟨F[A]'(by have := HFl.out; omega), List.getElem?_eq_getElem _⟩
    have hcx := cells_of (bys_row HO9.out).1 A x hx
    rw [Nat.zero_add] at hcx
    have hfx := World.ownsRow.frozenAt HO9.out A
    obtain ⟨y, hxor, hyb, hxy⟩ := xor_byte (Byt.at HFb.out hx) HT.out h0
    have hset := row_set (k := A) (y := y) HO9.out
    have hTn := HTurn.out x y hx hyb hxy
    have HTn : Hid _ := hTn
    have HO10 : Hid _ := hset.1
    have HB10 : Hid (Below w.heap.size w (w9.setCell ⟨gf, A, none⟩ (.int .u8 y))) := HB9.out.grown hset.2 HB9.out.size (fun k hk => by cases hk; exact Nat.le_trans HS2.out (World.ownsRow.lt HO9.out gf rfl).1)
    have HFb2 : Hid (Byt (F.set A y)) := Byt.set HFb.out hyb
    have HFl2 : Hid ((F.set A y).length = xs.length + 14) := by show _ = _; rw [List.length_set]; exact HFl.out
    have hAi2 : (A : Int) < (xs.length : Int) + 14 := by omega
    clear hset hTn hx hyb hxy h0 HTurn
    go_wp2_with fail
    refine (unframe_n (xs := F.set A y) HFl2.out.symm HTn.out (by decide) (bys_row HO10.out).1 HFb2.out HCf.out.1 HCf.out.2 (by omega)).mono ?_
    rintro e w11 ⟨a11, c11, rfl, hb11⟩
    have HB11 : Hid (Below w.heap.size w w11) := trans2 HB10.out hb11
    clear hb11
    go_wp2
    go_ret
    exact ⟨rfl, HB11.out⟩

set_option maxHeartbeats 6400000 in
set_option maxRecDepth 100000 in
theorem spoilt_pn (a : Option Addr) (c : Nat) (xs : List Int) (P0 : Nat) (hpl : P0 ≤ 9223372036854775807) (q : Int) (Q0 : Nat) (hq : q < 0) (hq1 : -(q + 1) = (Q0 : Int)) (hql : -9223372036854775808 ≤ q) (t : Int) (ht : 0 ≤ t ∧ t ≤ 255) (w : World) (hx : Bys w a xs) (hb : Byt xs) (hn : a = none → c = 0) (h : xs.length ≤ 20000) :
    Calls Try.prog 4 #[.slice a xs.length c, .int .i64 (P0 : Int), .int .u8 t, .int .i64 q] w fun e w' => e = .returned (.bool true) ∧ Below w.heap.size w w' := by
  obtain ⟨i0, hi, hz0, hz1, hz2⟩ := info_parts Try.info5
  have HX : Hid (Bys w a xs) := hx
  have HY : Hid (Byt xs) := hb
  have HN : Hid _ := hn
  obtain ⟨A, hA⟩ : ∃ A, P0 % (xs.length + 14) = A := ⟨_, rfl⟩
  obtain ⟨K, hK⟩ : ∃ K, Q0 % (xs.length + 14) = K := ⟨_, rfl⟩
  have hAlt : A < xs.length + 14 := by rw [← hA]; exact Nat.mod_lt _ (by omega)
  have hKlt : K < xs.length + 14 := by rw [← hK]; exact Nat.mod_lt _ (by omega)
  have hAi : (P0 : Int) % ((xs.length : Int) + 14) = (A : Int) := by rw [← hA]; simp
  have hKi : (Q0 : Int) % ((xs.length : Int) + 14) = (K : Int) := by rw [← hK]; simp
  have hAt : (P0 : Int).tmod ((xs.length : Int) + 14) = (A : Int) := by rw [Int.tmod_eq_emod_of_nonneg (by omega)]; exact hAi
  have hKt : (Q0 : Int).tmod ((xs.length : Int) + 14) = (K : Int) := by rw [Int.tmod_eq_emod_of_nonneg (by omega)]; exact hKi
  have HT : Hid _ := ht
  clear hx hb hn hA hK
  go_enter Try.func4, Try.ntmps4
  go_wp2_with fail
  refine (awake_any w).mono ?_
  rintro e w1 ⟨rfl, hb1⟩
  have HB1 : Hid (Below w.heap.size w w1) := hb1
  have HX1 : Hid (Bys w1 a xs) := HX.out.below hb1
  clear hb1
  have HP : Hid _ := one_pcs (w := w1) HX1.out HY.out HN.out
  have HB2 : Hid (Below w.heap.size w (w1.alloc (.cells #[.slice a xs.length c] 22))) := HB1.out.alloc HB1.out.size _
  have HX2 : Hid (Bys (w1.alloc (.cells #[.slice a xs.length c] 22)) a xs) := Bys.below HX1.out ((Below.refl _ _).alloc (Nat.le_refl _) _)
  have HF : Hid _ := frame_any (some ⟨w1.heap.size, 0, none⟩) 1 [(a, c, xs)] _ HP.out (by rw [one_body]; omega) (by simp)
  rw [one_body, frame_len] at HF
  have hFb : Byt (frameL xs) := frame_byt HY.out (by omega)
  have HFb : Hid _ := hFb
  have HFl : Hid ((frameL xs).length = xs.length + 14) := frame_len xs
  have hcut : unfC ((frameL xs).take K) = 21 := unf_cut (by omega) (by rw [frame_len]; exact hKlt)
  have hmore : unfC (frameL xs ++ [t]) = 22 := unf_more HY.out (by omega) t
  have hgood := unf_frame HY.out (show xs.length ≤ 262144 by omega)
  have HU1 : Hid _ := fun a c w hx h1 h2 => unframe_any a c (frameL xs) w hx hFb h1 h2 (by rw [frame_len]; omega)
  rw [hgood.1, hgood.2, frame_len] at HU1
  have HCut : Hid _ := hcut
  have HMore : Hid _ := hmore
  have HTurn : Hid (∀ x y, (frameL xs)[A]? = some x → (0 ≤ y ∧ y < 256) → x ≠ y → unfC ((frameL xs).set A y) = 22) := fun x y h1 h2 h3 => unf_turned HY.out (by omega) h1 h2 h3
  clear hcut hmore hgood hFb HP
  generalize frameL xs = F at *
  go_wp2_with fail
  generalize World.alloc w1 _ = w2 at HB2 HX2 HF ⊢
  refine Calls.mono HF.out ?_
  rintro e w3 ⟨a3, c3, rfl, ho3, hb3⟩
  obtain ⟨gf, cf, hvf, hcf1, hcf2⟩ := form_of ho3 (by omega)
  simp only [Value.slice.injEq, true_and] at hvf
  obtain ⟨rfl, rfl⟩ := hvf
  have HO3 : Hid _ := ho3
  have HB3 : Hid (Below w.heap.size w w3) := trans2 HB2.out hb3
  have HX3 : Hid (Bys w3 a xs) := Bys.below HX2.out hb3
  have HCf : Hid _ := And.intro hcf1 hcf2
  have HS2 : Hid (w.heap.size ≤ w2.heap.size) := HB2.out.size
  have hcfi : ((xs.length : Int) + 14) ≤ (c3 : Int) := by omega
  unfold maxLen at hcf2
  clear ho3 hb3 HF HB1 HX1 HB2 HX2 hcf1
  go_wp2_with fail
  refine (HU1.out (some ⟨gf, 0, none⟩) c3 w3 (bys_row HO3.out).1 HCf.out.1 HCf.out.2).mono ?_
  rintro e w4 ⟨a4, c4, rfl, ho4, hb4⟩
  have HO4 : Hid _ := owns_below HO3.out hb4
  have HB4 : Hid (Below w.heap.size w w4) := trans2 HB3.out hb4
  have HX4 : Hid (Bys w4 a xs) := Bys.below HX3.out hb4
  have HY4 : Hid (Bys w4 a4 xs) := (bys_row ho4).1
  clear ho4 hb4 HO3 HB3 HX3 HU1
  go_wp2_with fail
  refine (same_any' HY4.out HX4.out (by unfold maxLen; omega)).mono ?_
  rintro e w5 ⟨rfl, hb5⟩
  have HO5 : Hid _ := owns_below HO4.out hb5
  have HB5 : Hid (Below w.heap.size w w5) := trans2 HB4.out hb5
  clear hb5 HO4 HB4 HX4 HY4
  have hKc : (K : Int) ≤ (c3 : Int) := by omega
  go_wp2_with fail
  refine (unframe_n (xs := F.take K) (by rw [List.length_take, HFl.out]; omega) HCut.out (by decide) (Bys.take (bys_row HO5.out).1 K) (Byt.take HFb.out K) (by have := HCf.out.1; omega) HCf.out.2 (by omega)).mono ?_
  rintro e w6 ⟨a6, c6, rfl, hb6⟩
  have HO6 : Hid _ := owns_below HO5.out hb6
  have HB6 : Hid (Below w.heap.size w w6) := trans2 HB5.out hb6
  clear hb6 HO5 HB5
  have HB6s : Hid (Below w6.heap.size w6 w6) := Below.refl _ _
  go_wp2_with (first | (at_builtin; refine wpList_app rfl _ _ rfl w6.heap.size (.slice none 0 0) [] rfl (World.ownsRow_nil _ _ _ _) (some ⟨gf, 0, none⟩) (xs.length + 14) c3 F rfl HFl.out.symm (bys_row HO6.out).1 (fun h => by cases h) (by have := HFl.out; simp; omega) (Nat.le_refl _) ?_) | fail)
  intro v7 w7 ho hg
  have ho7 : w7.ownsRow w6.heap.size 5 1 v7 F.length (bv F) := by simpa using ho
  have HO7 : Hid _ := ho7
  have HB7 : Hid (Below w6.heap.size w6 w7) := HB6s.out.grown hg (Nat.le_refl _) (fun k hk => by cases hk)
  clear ho ho7 hg HB6s
  go_wp2_with (first | (at_builtin; refine wpList_append_own _ rfl _ _ 22 rfl w6.heap.size 5 i0 (.int .u8 0) 1 1 Try.underlying22 hi hz0 hz1 hz2 rfl (by decide) v7 F.length (bv F) rfl (World.ownsRow.alloc HO7.out _) ⟨w7.heap.size, 0, none⟩ 1 1 [.int .u8 t] rfl rfl (cell_one_new _ _ _) (fun x hx => by simp at hx; subst hx; rfl) (by have := HFl.out; unfold maxLen; omega) (by have := HFl.out; omega) (by have := HB7.out.size; simp; omega) ?_) | fail)
  intro v8 w8 ho hg _
  have R := rel_app HO7.out HB7.out (Nat.le_refl _) (by simpa using ho) (by simpa using hg)
  have HB8 : Hid (Below w6.heap.size w6 w8) := R.2
  obtain ⟨a8, c8, rfl, hx8, -, -, hc8, hm8⟩ := bys_of_owns R.1
  have HX8 : Hid _ := hx8
  have HC8 : Hid _ := And.intro hc8 hm8
  have HLm : Hid ((F ++ [t]).length = xs.length + 15) := by show _ = _; rw [List.length_append, HFl.out]; rfl
  clear ho hg R hx8 hc8 hm8 HO7 HB7
  go_wp2_with fail
  refine (unframe_n (xs := F ++ [t]) (by simp) HMore.out (by decide) HX8.out (Byt.append HFb.out (by intro z hz; rw [List.mem_singleton] at hz; have := HT.out; omega)) (by simpa using HC8.out.1) HC8.out.2 (by have := HFl.out; simp; omega)).mono ?_
  rintro e w9 ⟨a9, c9, rfl, hb9⟩
  have HB9s : Hid (Below w6.heap.size w6 w9) := trans2 HB8.out hb9
  have HB9 : Hid (Below w.heap.size w w9) := trans2 HB6.out HB9s.out
  have HO9 : Hid _ := owns_below HO6.out HB9s.out
  clear hb9 HX8 HC8 HB8 HO6 HLm HB9s
  by_cases h0 : t = 0
  · subst h0
    go_wp2
    go_ret
    exact ⟨rfl, HB9.out⟩
  · have h0' : (t == 0) = false := by simpa using h0
    obtain ⟨x, hx⟩ : ∃ x, F[A]? = some x := ⟨F[A]'(by have := HFl.out; omega), List.getElem?_eq_getElem _⟩
    have hcx := cells_of (bys_row HO9.out).1 A x hx
    rw [Nat.zero_add] at hcx
    have hfx := World.ownsRow.frozenAt HO9.out A
    obtain ⟨y, hxor, hyb, hxy⟩ := xor_byte (Byt.at HFb.out hx) HT.out h0
    have hset := row_set (k := A) (y := y) HO9.out
    have hTn := HTurn.out x y hx hyb hxy
    have HTn : Hid _ := hTn
    have HO10 : Hid _ := hset.1
    have HB10 : Hid (Below w.heap.size w (w9.setCell ⟨gf, A, none⟩ (.int .u8 y))) := HB9.out.grown hset.2 HB9.out.size (fun k hk => by cases hk; exact Nat.le_trans HS2.out (World.ownsRow.lt HO9.out gf rfl).1)
    have HFb2 : Hid (Byt (F.set A y)) := Byt.set HFb.out hyb
    have HFl2 : Hid ((F.set A y).length = xs.length + 14) := by show _ = _; rw [List.length_set]; exact HFl.out
    have hAi2 : (A : Int) < (xs.length : Int) + 14 := by omega
    clear hset hTn hx hyb hxy h0 HTurn
    go_wp2_with fail
    refine (unframe_n (xs := F.set A y) HFl2.out.symm HTn.out (by decide) (bys_row HO10.out).1 HFb2.out HCf.out.1 HCf.out.2 (by omega)).mono ?_
    rintro e w11 ⟨a11, c11, rfl, hb11⟩
    have HB11 : Hid (Below w.heap.size w w11) := trans2 HB10.out hb11
    clear hb11
    go_wp2
    go_ret
    exact ⟨rfl, HB11.out⟩

set_option maxHeartbeats 6400000 in
set_option maxRecDepth 100000 in
theorem spoilt_nn (a : Option Addr) (c : Nat) (xs : List Int) (p : Int) (P0 : Nat) (hp : p < 0) (hp1 : -(p + 1) = (P0 : Int)) (hpl : -9223372036854775808 ≤ p) (q : Int) (Q0 : Nat) (hq : q < 0) (hq1 : -(q + 1) = (Q0 : Int)) (hql : -9223372036854775808 ≤ q) (t : Int) (ht : 0 ≤ t ∧ t ≤ 255) (w : World) (hx : Bys w a xs) (hb : Byt xs) (hn : a = none → c = 0) (h : xs.length ≤ 20000) :
    Calls Try.prog 4 #[.slice a xs.length c, .int .i64 p, .int .u8 t, .int .i64 q] w fun e w' => e = .returned (.bool true) ∧ Below w.heap.size w w' := by
  obtain ⟨i0, hi, hz0, hz1, hz2⟩ := info_parts Try.info5
  have HX : Hid (Bys w a xs) := hx
  have HY : Hid (Byt xs) := hb
  have HN : Hid _ := hn
  obtain ⟨A, hA⟩ : ∃ A, P0 % (xs.length + 14) = A := ⟨_, rfl⟩
  obtain ⟨K, hK⟩ : ∃ K, Q0 % (xs.length + 14) = K := ⟨_, rfl⟩
  have hAlt : A < xs.length + 14 := by rw [← hA]; exact Nat.mod_lt _ (by omega)
  have hKlt : K < xs.length + 14 := by rw [← hK]; exact Nat.mod_lt _ (by omega)
  have hAi : (P0 : Int) % ((xs.length : Int) + 14) = (A : Int) := by rw [← hA]; simp
  have hKi : (Q0 : Int) % ((xs.length : Int) + 14) = (K : Int) := by rw [← hK]; simp
  have hAt : (P0 : Int).tmod ((xs.length : Int) + 14) = (A : Int) := by rw [Int.tmod_eq_emod_of_nonneg (by omega)]; exact hAi
  have hKt : (Q0 : Int).tmod ((xs.length : Int) + 14) = (K : Int) := by rw [Int.tmod_eq_emod_of_nonneg (by omega)]; exact hKi
  have HT : Hid _ := ht
  clear hx hb hn hA hK
  go_enter Try.func4, Try.ntmps4
  go_wp2_with fail
  refine (awake_any w).mono ?_
  rintro e w1 ⟨rfl, hb1⟩
  have HB1 : Hid (Below w.heap.size w w1) := hb1
  have HX1 : Hid (Bys w1 a xs) := HX.out.below hb1
  clear hb1
  have HP : Hid _ := one_pcs (w := w1) HX1.out HY.out HN.out
  have HB2 : Hid (Below w.heap.size w (w1.alloc (.cells #[.slice a xs.length c] 22))) := HB1.out.alloc HB1.out.size _
  have HX2 : Hid (Bys (w1.alloc (.cells #[.slice a xs.length c] 22)) a xs) := Bys.below HX1.out ((Below.refl _ _).alloc (Nat.le_refl _) _)
  have HF : Hid _ := frame_any (some ⟨w1.heap.size, 0, none⟩) 1 [(a, c, xs)] _ HP.out (by rw [one_body]; omega) (by simp)
  rw [one_body, frame_len] at HF
  have hFb : Byt (frameL xs) := frame_byt HY.out (by omega)
  have HFb : Hid _ := hFb
  have HFl : Hid ((frameL xs).length = xs.length + 14) := frame_len xs
  have hcut : unfC ((frameL xs).take K) = 21 := unf_cut (by omega) (by rw [frame_len]; exact hKlt)
  have hmore : unfC (frameL xs ++ [t]) = 22 := unf_more HY.out (by omega) t
  have hgood := unf_frame HY.out (show xs.length ≤ 262144 by omega)
  have HU1 : Hid _ := fun a c w hx h1 h2 => unframe_any a c (frameL xs) w hx hFb h1 h2 (by rw [frame_len]; omega)
  rw [hgood.1, hgood.2, frame_len] at HU1
  have HCut : Hid _ := hcut
  have HMore : Hid _ := hmore
  have HTurn : Hid (∀ x y, (frameL xs)[A]? = some x → (0 ≤ y ∧ y < 256) → x ≠ y → unfC ((frameL xs).set A y) = 22) := fun x y h1 h2 h3 => unf_turned HY.out (by omega) h1 h2 h3
  clear hcut hmore hgood hFb HP
  generalize frameL xs = F at *
  go_wp2_with fail
  generalize World.alloc w1 _ = w2 at HB2 HX2 HF ⊢
  refine Calls.mono HF.out ?_
  rintro e w3 ⟨a3, c3, rfl, ho3, hb3⟩
  obtain ⟨gf, cf, hvf, hcf1, hcf2⟩ := form_of ho3 (by omega)
  simp only [Value.slice.injEq, true_and] at hvf
  obtain ⟨rfl, rfl⟩ := hvf
  have HO3 : Hid _ := ho3
  have HB3 : Hid (Below w.heap.size w w3) := trans2 HB2.out hb3
  have HX3 : Hid (Bys w3 a xs) := Bys.below HX2.out hb3
  have HCf : Hid _ := And.intro hcf1 hcf2
  have HS2 : Hid (w.heap.size ≤ w2.heap.size) := HB2.out.size
  have hcfi : ((xs.length : Int) + 14) ≤ (c3 : Int) := by omega
  unfold maxLen at hcf2
  clear ho3 hb3 HF HB1 HX1 HB2 HX2 hcf1
  go_wp2_with fail
  refine (HU1.out (some ⟨gf, 0, none⟩) c3 w3 (bys_row HO3.out).1 HCf.out.1 HCf.out.2).mono ?_
  rintro e w4 ⟨a4, c4, rfl, ho4, hb4⟩
  have HO4 : Hid _ := owns_below HO3.out hb4
  have HB4 : Hid (Below w.heap.size w w4) := trans2 HB3.out hb4
  have HX4 : Hid (Bys w4 a xs) := Bys.below HX3.out hb4
  have HY4 : Hid (Bys w4 a4 xs) := (bys_row ho4).1
  clear ho4 hb4 HO3 HB3 HX3 HU1
  go_wp2_with fail
  refine (same_any' HY4.out HX4.out (by unfold maxLen; omega)).mono ?_
  rintro e w5 ⟨rfl, hb5⟩
  have HO5 : Hid _ := owns_below HO4.out hb5
  have HB5 : Hid (Below w.heap.size w w5) := trans2 HB4.out hb5
  clear hb5 HO4 HB4 HX4 HY4
  have hKc : (K : Int) ≤ (c3 : Int) := by omega
  go_wp2_with fail
  refine (unframe_n (xs := F.take K) (by rw [List.length_take, HFl.out]; omega) HCut.out (by decide) (Bys.take (bys_row HO5.out).1 K) (Byt.take HFb.out K) (by have := HCf.out.1; omega) HCf.out.2 (by omega)).mono ?_
  rintro e w6 ⟨a6, c6, rfl, hb6⟩
  have HO6 : Hid _ := owns_below HO5.out hb6
  have HB6 : Hid (Below w.heap.size w w6) := trans2 HB5.out hb6
  clear hb6 HO5 HB5
  have HB6s : Hid (Below w6.heap.size w6 w6) := Below.refl _ _
  go_wp2_with (first | (at_builtin; refine wpList_app rfl _ _ rfl w6.heap.size (.slice none 0 0) [] rfl (World.ownsRow_nil _ _ _ _) (some ⟨gf, 0, none⟩) (xs.length + 14) c3 F rfl HFl.out.symm (bys_row HO6.out).1 (fun h => by cases h) (by have := HFl.out; simp; omega) (Nat.le_refl _) ?_) | fail)
  intro v7 w7 ho hg
  have ho7 : w7.ownsRow w6.heap.size 5 1 v7 F.length (bv F) := by simpa using ho
  have HO7 : Hid _ := ho7
  have HB7 : Hid (Below w6.heap.size w6 w7) := HB6s.out.grown hg (Nat.le_refl _) (fun k hk => by cases hk)
  clear ho ho7 hg HB6s
  go_wp2_with (first | (at_builtin; refine wpList_append_own _ rfl _ _ 22 rfl w6.heap.size 5 i0 (.int .u8 0) 1 1 Try.underlying22 hi hz0 hz1 hz2 rfl (by decide) v7 F.length (bv F) rfl (World.ownsRow.alloc HO7.out _) ⟨w7.heap.size, 0, none⟩ 1 1 [.int .u8 t] rfl rfl (cell_one_new _ _ _) (fun x hx => by simp at hx; subst hx; rfl) (by have := HFl.out; unfold maxLen; omega) (by have := HFl.out; omega) (by have := HB7.out.size; simp; omega) ?_) | fail)
  intro v8 w8 ho hg _
  have R := rel_app HO7.out HB7.out (Nat.le_refl _) (by simpa using ho) (by simpa using hg)
  have HB8 : Hid (Below w6.heap.size w6 w8) := R.2
  obtain ⟨a8, c8, rfl, hx8, -, -, hc8, hm8⟩ := bys_of_owns R.1
  have HX8 : Hid _ := hx8
  have HC8 : Hid _ := And.intro hc8 hm8
  have HLm : Hid ((F ++ [t]).length = xs.length + 15) := by show _ = _; rw [List.length_append, HFl.out]; rfl
  clear ho hg R hx8 hc8 hm8 HO7 HB7
  go_wp2_with fail
  refine (unframe_n (xs := F ++ [t]) (by simp) HMore.out (by decide) HX8.out (Byt.append HFb.out (by intro z hz; rw [List.mem_singleton] at hz; have := HT.out; omega)) (by simpa using HC8.out.1) HC8.out.2 (by have := HFl.out; simp; omega)).mono ?_
  rintro e w9 ⟨a9, c9, rfl, hb9⟩
  have HB9s : Hid (Below w6.heap.size w6 w9) := trans2 HB8.out hb9
  have HB9 : Hid (Below w.heap.size w w9) := trans2 HB6.out HB9s.out
  have HO9 : Hid _ := owns_below HO6.out HB9s.out
  clear hb9 HX8 HC8 HB8 HO6 HLm HB9s
  by_cases h0 : t = 0
  · subst h0
    go_wp2
    go_ret
    exact ⟨rfl, HB9.out⟩
  · have h0' : (t == 0) = false := by simpa using h0
    obtain ⟨x, hx⟩ : ∃ x, F[A]? = some x := ⟨F[A]'(by have := HFl.out; omega), List.getElem?_eq_getElem _⟩
    have hcx := cells_of (bys_row HO9.out).1 A x hx
    rw [Nat.zero_add] at hcx
    have hfx := World.ownsRow.frozenAt HO9.out A
    obtain ⟨y, hxor, hyb, hxy⟩ := xor_byte (Byt.at HFb.out hx) HT.out h0
    have hset := row_set (k := A) (y := y) HO9.out
    have hTn := HTurn.out x y hx hyb hxy
    have HTn : Hid _ := hTn
    have HO10 : Hid _ := hset.1
    have HB10 : Hid (Below w.heap.size w (w9.setCell ⟨gf, A, none⟩ (.int .u8 y))) := HB9.out.grown hset.2 HB9.out.size (fun k hk => by cases hk; exact Nat.le_trans HS2.out (World.ownsRow.lt HO9.out gf rfl).1)
    have HFb2 : Hid (Byt (F.set A y)) := Byt.set HFb.out hyb
    have HFl2 : Hid ((F.set A y).length = xs.length + 14) := by show _ = _; rw [List.length_set]; exact HFl.out
    have hAi2 : (A : Int) < (xs.length : Int) + 14 := by omega
    clear hset hTn hx hyb hxy h0 HTurn
    go_wp2_with fail
    refine (unframe_n (xs := F.set A y) HFl2.out.symm HTn.out (by decide) (bys_row HO10.out).1 HFb2.out HCf.out.1 HCf.out.2 (by omega)).mono ?_
    rintro e w11 ⟨a11, c11, rfl, hb11⟩
    have HB11 : Hid (Below w.heap.size w w11) := trans2 HB10.out hb11
    clear hb11
    go_wp2
    go_ret
    exact ⟨rfl, HB11.out⟩

theorem spoilt_walk (a : Option Addr) (c : Nat) (xs : List Int) (p t q : Int) (w : World) (hp : -9223372036854775808 ≤ p ∧ p ≤ 9223372036854775807) (ht : 0 ≤ t ∧ t ≤ 255) (hq : -9223372036854775808 ≤ q ∧ q ≤ 9223372036854775807) (h : Bys w a xs ∧ Byt xs ∧ (a = none → c = 0) ∧ xs.length ≤ maxLen) :
    Calls Try.prog 4 #[.slice a xs.length c, .int .i64 p, .int .u8 t, .int .i64 q] w fun e w' => e = .returned (.bool true) ∧ Below w.heap.size w w' := by
  by_cases hl : xs.length ≤ 20000
  · by_cases gp : p < 0
    · obtain ⟨P0, hP0⟩ := Int.eq_ofNat_of_zero_le (show 0 ≤ -(p + 1) by omega)
      by_cases gq : q < 0
      · obtain ⟨Q0, hQ0⟩ := Int.eq_ofNat_of_zero_le (show 0 ≤ -(q + 1) by omega)
        exact spoilt_nn a c xs p P0 gp hP0 hp.1 q Q0 gq hQ0 hq.1 t ht w h.1 h.2.1 h.2.2.1 hl
      · obtain ⟨Q0, rfl⟩ := Int.eq_ofNat_of_zero_le (show 0 ≤ q by omega)
        exact spoilt_np a c xs p P0 gp hP0 hp.1 Q0 (by omega) t ht w h.1 h.2.1 h.2.2.1 hl
    · obtain ⟨P0, rfl⟩ := Int.eq_ofNat_of_zero_le (show 0 ≤ p by omega)
      by_cases gq : q < 0
      · obtain ⟨Q0, hQ0⟩ := Int.eq_ofNat_of_zero_le (show 0 ≤ -(q + 1) by omega)
        exact spoilt_pn a c xs P0 (by omega) q Q0 gq hQ0 hq.1 t ht w h.1 h.2.1 h.2.2.1 hl
      · obtain ⟨Q0, rfl⟩ := Int.eq_ofNat_of_zero_le (show 0 ≤ q by omega)
        exact spoilt_pp a c xs P0 (by omega) Q0 (by omega) t ht w h.1 h.2.1 h.2.2.1 hl
  · exact spoilt_long a c xs p q t w h.2.2.2 (by omega)
end Go.Proofs.Ytdjibjmhjofedab
