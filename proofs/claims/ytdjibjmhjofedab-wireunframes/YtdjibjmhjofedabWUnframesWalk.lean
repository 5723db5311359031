/-
  WireUnframes: the walk.
-/
import Derived.Test.YtdjibjmhjofedabWTurned
import Derived.Test.YtdjibjmhjofedabWRefFrame
import Derived.Test.YtdjibjmhjofedabWFrameP
import Derived.Test.YtdjibjmhjofedabWAwake
namespace Go.Proofs.Ytdjibjmhjofedab
open Go.RowKit

theorem unframes_long (a : Option Addr) (c : Nat) (xs : List Int) (w : World) (hm : xs.length ≤ maxLen) (h : 20000 < xs.length) :
    Calls Try.prog 6 #[.slice a xs.length c] w fun e w' => e = .returned (.bool true) ∧ Below w.heap.size w w' := by
  unfold maxLen at hm
  have h' : (20000 : Int) < (xs.length : Int) := by omega
  go_enter Try.func6, Try.ntmps6
  go_wp2
  go_ret
  exact ⟨rfl, Below.refl _ _⟩

theorem unfB_len (xs : List Int) (h : xs.length ≤ 20000) : (unfB xs).length ≤ maxLen := by
  unfold unfB
  split
  · rw [List.length_take, List.length_drop]
    unfold maxLen
    omega
  · simp

theorem grown_below {w w' : World} {r : Option Nat} {B : Nat} (hg : w.grownBy w' r) (hB : B ≤ w.heap.size) (hr : ∀ k, r = some k → B ≤ k) : Below B w w' := (Below.refl _ _).grown hg hB hr

/-- Both answers of one list, and that it is untouched: the two that come in WireUnframes. -/
theorem same_any' {w : World} {a b : Option Addr} {c d : Nat} {ys : List Int} (hx : Bys w a ys) (hy : Bys w b ys) (hm : ys.length ≤ maxLen) :
    Calls Try.prog 12 #[.slice a ys.length c, .slice b ys.length d] w fun e w' => e = .returned (.bool true) ∧ Below w.heap.size w w' := by
  have := same_is (c := c) (d := d) hx hy hm
  rw [decide_eq_true rfl] at this
  exact this

/-- One list's bytes put over another's, as far as this. -/
def mix (k : Nat) (z x : List Int) : List Int := z.take k ++ x.drop k
theorem mix_zero (z x : List Int) : mix 0 z x = x := by simp [mix]
theorem mix_all {z x : List Int} {n : Nat} (hz : z.length = n) (hx : x.length = n) : mix n z x = z := by
  unfold mix
  rw [List.take_of_length_le (by omega), List.drop_eq_nil_of_le (by omega), List.append_nil]
theorem mix_len {z x : List Int} {n k : Nat} (hz : z.length = n) (hx : x.length = n) : (mix k z x).length = n := by
  unfold mix
  rw [List.length_append, List.length_take, List.length_drop]
  omega
theorem mix_next {z x : List Int} {n k : Nat} {v : Int} (hz : z.length = n) (hx : x.length = n) (h : z[k]? = some v) : (mix k z x).set k v = mix (k + 1) z x := by
  have hl : k < z.length := (List.getElem?_eq_some_iff.1 h).1
  have e : (z.take k).length = k := by rw [List.length_take]; omega
  unfold mix
  rw [List.set_append_right _ _ (by omega), e, Nat.sub_self, List.take_add_one, h, List.append_assoc, List.drop_eq_getElem_cons (show k < x.length by omega)]
  rfl
theorem row_set {w : World} {base g cap n k : Nat} {ys : List Int} {y : Int} (h : w.ownsRow base 5 1 (.slice (some ⟨g, 0, none⟩) n cap) n (bv ys)) :
    (w.setCell ⟨g, k, none⟩ (.int .u8 y)).ownsRow base 5 1 (.slice (some ⟨g, 0, none⟩) n cap) n (bv (ys.set k y)) ∧ w.grownBy (w.setCell ⟨g, k, none⟩ (.int .u8 y)) (some g) := by
  have s := World.ownsRow.stored h k (.int .u8 y)
  refine ⟨?_, s.2⟩
  have e : bv (ys.set k y) = (bv ys).set k (.int .u8 y) := by unfold bv; rw [← List.map_set]
  rw [e]
  exact s.1
theorem bys_grown {w w' : World} {b o : Nat} {zs : List Int} {g : Nat} (h : Bys w (some ⟨b, o, none⟩) zs) (hg : w.grownBy w' (some g)) (hne : b ≠ g) : Bys w' (some ⟨b, o, none⟩) zs := by
  rcases h with h | ⟨b', o', ha, hlt, hs⟩
  · exact .inl h
  · have e := Option.some.inj ha
    simp only [Addr.mk.injEq, and_true] at e
    obtain ⟨rfl, rfl⟩ := e
    exact .inr ⟨b, o, rfl, Nat.lt_of_lt_of_le hlt hg.size, fun j z hz => hg.cell (hs j z hz) (fun h => hne (Option.some.inj h))⟩

set_option maxHeartbeats 6400000 in
set_option maxRecDepth 100000 in
theorem unframes_short (a : Option Addr) (c : Nat) (xs : List Int) (w : World) (hx : Bys w a xs) (hb : Byt xs) (hn : a = none → c = 0) (h : xs.length ≤ 20000) (hc : xs.length ≤ c ∧ c ≤ maxLen) :
    Calls Try.prog 6 #[.slice a xs.length c] w fun e w' => e = .returned (.bool true) ∧ Below w.heap.size w w' := by
  have HX : Hid (Bys w a xs) := hx
  have HY : Hid (Byt xs) := hb
  have HN : Hid _ := hn
  have HC : Hid _ := hc
  clear hx hb hn hc
  go_enter Try.func6, Try.ntmps6
  go_wp2_with fail
  refine (roomy_any a c xs w HX.out HN.out (by omega)).mono ?_
  rintro e w1 ⟨g, cap, rfl, hr1, hb1⟩
  have HR1 : Hid (Room w1 w.heap.size g cap xs) := hr1
  have HB1 : Hid (Below w.heap.size w w1) := hb1
  have HX1 : Hid (Bys w1 a xs) := HX.out.below hb1
  have HCap : Hid _ := hr1.cap
  clear hr1 hb1
  have HU : Hid _ := fun w hx => unframe_any (some ⟨g, 0, none⟩) cap xs w hx HY.out (by have := HCap.out.1; omega) HCap.out.2 (by omega)
  have HRU : Hid _ := fun w hx => refUnframe_any a c xs w hx HY.out HC.out.1 HC.out.2 (by omega)
  have hlm := unfB_len xs h
  generalize unfB xs = U at HU HRU hlm
  generalize unfC xs = UC at HU HRU
  go_wp2_with fail
  refine (HU.out _ (Room.bys HR1.out)).mono ?_
  rintro e w2 ⟨a2, c2, rfl, ho2, hb2⟩
  have HR2 : Hid (Room w2 w.heap.size g cap xs) := Room.below HR1.out hb2
  have HB2 : Hid (Below w.heap.size w w2) := trans2 HB1.out hb2
  have HX2 : Hid (Bys w2 a xs) := Bys.below HX1.out hb2
  have HU2 : Hid (Bys w2 a2 U) := (bys_row ho2).1
  clear ho2 hb2 HR1 HB1 HX1
  go_wp2_with fail
  refine (HRU.out _ HX2.out).mono ?_
  rintro e w3 ⟨a3, c3, rfl, hx3, hb3⟩
  have HR3 : Hid (Room w3 w.heap.size g cap xs) := Room.below HR2.out hb3
  have HB3 : Hid (Below w.heap.size w w3) := trans2 HB2.out hb3
  have HX3 : Hid (Bys w3 a xs) := Bys.below HX2.out hb3
  have HU3 : Hid (Bys w3 a2 U) := Bys.below HU2.out hb3
  have HV3 : Hid (Bys w3 a3 U) := hx3
  clear hx3 hb3 HR2 HB2 HX2 HU2 HU HRU
  go_wp2_with fail
  refine (same_any' HU3.out HV3.out hlm).mono ?_
  rintro e w4 ⟨rfl, hb4⟩
  have HR4 : Hid (Room w4 w.heap.size g cap xs) := Room.below HR3.out hb4
  have HB4 : Hid (Below w.heap.size w w4) := trans2 HB3.out hb4
  have HX4 : Hid (Bys w4 a xs) := Bys.below HX3.out hb4
  clear hb4 HR3 HB3 HX3 HU3 HV3
  go_wp2_with (first | (go_at_call 21; go_in) | fail)
  refine (untouched_any _ g cap xs a c w4 HR4.out HX4.out (by omega)).mono ?_
  rintro e w5 ⟨rfl, hb5⟩
  have HR5 : Hid (Room w5 w.heap.size g cap xs) := Room.below HR4.out hb5
  have HB5 : Hid (Below w.heap.size w w5) := trans2 HB4.out hb5
  clear hb5 HR4 HB4 HX4
  go_wp2_with fail
  refine (turned_law _ g cap xs w5 HR5.out HY.out (by omega)).mono ?_
  rintro e w6 ⟨a6, c6, rfl, ho6, hr6, hg6⟩
  have HX6 : Hid (Bys w6 a6 (turnL xs)) := (row_cap ho6).1
  have HC6 : Hid _ := (row_cap ho6).2
  have HR6 : Hid (Room w6 w.heap.size g cap (turnL xs)) := hr6
  have HB6 : Hid (Below w.heap.size w w6) := HB5.out.grown hg6 HB5.out.size (fun k hk => by cases hk; exact (Room.lt HR5.out).1)
  have HY6 : Hid (Byt (turnL xs)) := turnL_byt HY.out
  have h6 : (turnL xs).length ≤ 20000 := by rw [turnL_len]; exact h
  rw [← turnL_len xs]
  generalize turnL xs = ys at HX6 HR6 HY6 HC6 h6 ⊢
  clear ho6 hr6 hg6 HR5 HB5
  have HCap6 : Hid _ := Room.cap HR6.out
  have HU : Hid _ := fun w hx => unframe_any (some ⟨g, 0, none⟩) cap ys w hx HY6.out (by have := HCap6.out.1; omega) HCap6.out.2 (by omega)
  have HRU : Hid _ := fun w hx => refUnframe_any a6 c6 ys w hx HY6.out HC6.out.1 HC6.out.2 (by omega)
  have hlm6 := unfB_len ys h6
  generalize unfB ys = U6 at HU HRU hlm6
  generalize unfC ys = UC6 at HU HRU
  clear hlm
  go_wp2_with fail
  refine (HU.out _ (Room.bys HR6.out)).mono ?_
  rintro e w7 ⟨a7, c7, rfl, ho7, hb7⟩
  have HR7 : Hid (Room w7 w.heap.size g cap ys) := Room.below HR6.out hb7
  have HB7 : Hid (Below w.heap.size w w7) := trans2 HB6.out hb7
  have HX7 : Hid (Bys w7 a6 ys) := Bys.below HX6.out hb7
  have HU7 : Hid (Bys w7 a7 U6) := (bys_row ho7).1
  clear ho7 hb7 HR6 HB6 HX6
  go_wp2_with fail
  refine (HRU.out _ HX7.out).mono ?_
  rintro e w8 ⟨a8, c8, rfl, hx8, hb8⟩
  have HR8 : Hid (Room w8 w.heap.size g cap ys) := Room.below HR7.out hb8
  have HB8 : Hid (Below w.heap.size w w8) := trans2 HB7.out hb8
  have HX8 : Hid (Bys w8 a6 ys) := Bys.below HX7.out hb8
  have HU8 : Hid (Bys w8 a7 U6) := Bys.below HU7.out hb8
  have HV8 : Hid (Bys w8 a8 U6) := hx8
  clear hx8 hb8 HR7 HB7 HX7 HU7 HU HRU
  go_wp2_with fail
  refine (same_any' HU8.out HV8.out hlm6).mono ?_
  rintro e w9 ⟨rfl, hb9⟩
  have HR9 : Hid (Room w9 w.heap.size g cap ys) := Room.below HR8.out hb9
  have HB9 : Hid (Below w.heap.size w w9) := trans2 HB8.out hb9
  have HX9 : Hid (Bys w9 a6 ys) := Bys.below HX8.out hb9
  clear hb9 HR8 HB8 HX8 HU8 HV8
  go_wp2_with (first | (go_at_call 21; go_in) | fail)
  refine (untouched_any _ g cap ys a6 c6 w9 HR9.out HX9.out (by omega)).mono ?_
  rintro e w10 ⟨rfl, hb10⟩
  have HB10 : Hid (Below w.heap.size w w10) := trans2 HB9.out hb10
  clear hb10 HR9 HB9 HX9 hlm6
  have hc1 := conv_at w10 #[.int .u8 97, .int .u8 98] 2 2 w10.heap.size rfl
  have HB11 : Hid (Below w.heap.size w (w10.alloc (.cells #[.int .u8 97, .int .u8 98] 5 (2, 3)))) := HB10.out.alloc HB10.out.size _
  have HX11 : Hid (Bys (w10.alloc (.cells #[.int .u8 97, .int .u8 98] 5 (2, 3))) (some ⟨w10.heap.size, 0, none⟩) [97, 98]) := lit_bys w10 [97, 98] (2, 3)
  have hab : Byt [97, 98] := by intro z hz; simp at hz; omega
  have hcd : Byt [99, 100] := by intro z hz; simp at hz; omega
  go_wp2_with fail
  clear hc1
  generalize World.alloc w10 _ = w11 at HB11 HX11 ⊢
  have HS11 : Hid (w.heap.size ≤ w11.heap.size) := HB11.out.size
  refine (refFrame_any (some ⟨w10.heap.size, 0, none⟩) 2 [97, 98] w11 HX11.out hab (fun h => by cases h) (by decide)).mono ?_
  rintro e w12 ⟨a12, c12, rfl, ho12, hb12⟩
  have hfx : (frameL [97, 98]).length = 16 := frame_len [97, 98]
  have hfz : (frameL [99, 100]).length = 16 := frame_len [99, 100]
  have hux := unf_frame hab (by decide)
  have huz := unf_frame hcd (by decide)
  have hyx : Byt (frameL [97, 98]) := frame_byt hab (by decide)
  have hyz : Byt (frameL [99, 100]) := frame_byt hcd (by decide)
  have HFZ : Hid _ := fun a c w hx hn => refFrame_any a c [99, 100] w hx hcd hn (by decide)
  have HUX : Hid _ := fun a c w hx (h1 : (frameL [97, 98]).length ≤ c) h2 => unframe_any a c (frameL [97, 98]) w hx hyx h1 h2 (by omega)
  have HUZ : Hid _ := fun a c w hx (h1 : (frameL [99, 100]).length ≤ c) h2 => unframe_any a c (frameL [99, 100]) w hx hyz h1 h2 (by omega)
  rw [hux.1, hux.2] at HUX
  rw [huz.1, huz.2] at HUZ
  have HLX : Hid _ := hfx
  have HLZ : Hid _ := hfz
  clear hux huz hyx hyz
  generalize frameL [97, 98] = FX at *
  generalize frameL [99, 100] = FZ at *
  rw [hfx] at HUX ho12 ⊢
  rw [hfz] at HUZ HFZ
  clear hfx hfz hab hcd
  obtain ⟨gx, cx, hvx, hcx1, hcx2⟩ := form_of ho12 (by omega)
  simp only [Value.slice.injEq, true_and] at hvx
  obtain ⟨rfl, rfl⟩ := hvx
  have HO12 : Hid _ := ho12
  have HB12 : Hid (Below w.heap.size w w12) := trans2 HB11.out hb12
  have HCx : Hid _ := And.intro hcx1 hcx2
  have HX12 : Hid _ := (bys_row ho12).1
  clear ho12 hb12 HB11 HX11 HB10 hcx1 hcx2
  go_wp2_with fail
  refine (HUX.out (some ⟨gx, 0, none⟩) c12 w12 HX12.out HCx.out.1 HCx.out.2).mono ?_
  rintro e w13 ⟨a13, c13, rfl, ho13, hb13⟩
  have HO13 : Hid _ := owns_below HO12.out hb13
  have HB13 : Hid (Below w.heap.size w w13) := trans2 HB12.out hb13
  have HY13 : Hid (Bys w13 a13 [97, 98]) := (bys_row ho13).1
  obtain ⟨gy, cy, hvy, -⟩ := form_of ho13 (by decide)
  simp only [Value.slice.injEq, true_and] at hvy
  obtain ⟨rfl, rfl⟩ := hvy
  have hgy : gx < gy := by
    have h1 := (World.ownsRow.lt ho13 gy rfl).1
    have h2 := (World.ownsRow.lt HO12.out gx rfl).2
    omega
  clear ho13 hb13 HO12 HB12 HX12
  simp only [List.length_cons, List.length_nil]
  have hc2 := conv_at w13 #[.int .u8 99, .int .u8 100] 2 2 w13.heap.size rfl
  have hal : Below w13.heap.size w13 (w13.alloc (.cells #[.int .u8 99, .int .u8 100] 5 (2, 3))) := (Below.refl _ _).alloc (Nat.le_refl _) _
  have HB14 : Hid (Below w.heap.size w (w13.alloc (.cells #[.int .u8 99, .int .u8 100] 5 (2, 3)))) := trans2 HB13.out hal
  have HO14 : Hid _ := owns_below HO13.out hal
  have HY14 : Hid _ := Bys.below HY13.out hal
  have HX14 : Hid (Bys (w13.alloc (.cells #[.int .u8 99, .int .u8 100] 5 (2, 3))) (some ⟨w13.heap.size, 0, none⟩) [99, 100]) := lit_bys w13 [99, 100] (2, 3)
  clear hal
  go_wp2_with fail
  clear hc2
  generalize World.alloc w13 _ = w14 at HB14 HO14 HY14 HX14 ⊢
  refine (HFZ.out (some ⟨w13.heap.size, 0, none⟩) 2 w14 HX14.out (fun h => by cases h)).mono ?_
  rintro e w15 ⟨a15, c15, rfl, ho15, hb15⟩
  obtain ⟨gz, cz, hvz, -⟩ := form_of ho15 (by omega)
  simp only [Value.slice.injEq, true_and] at hvz
  obtain ⟨rfl, rfl⟩ := hvz
  have HO15 : Hid _ := owns_below HO14.out hb15
  have HB15 : Hid (Below w.heap.size w w15) := trans2 HB14.out hb15
  have HY15 : Hid (Bys w15 (some ⟨gy, 0, none⟩) [97, 98]) := Bys.below HY14.out hb15
  have HZ15 : Hid (Bys w15 (some ⟨gz, 0, none⟩) FZ) := (bys_row ho15).1
  have hgz : gx < gz := by
    have h1 := (World.ownsRow.lt ho15 gz rfl).1
    have h2 := (World.ownsRow.lt HO14.out gx rfl).2
    omega
  have hxlo := (World.ownsRow.lt HO15.out gx rfl).1
  have HBx : Hid (w.heap.size ≤ w11.heap.size ∧ w11.heap.size ≤ gx) := ⟨HS11.out, hxlo⟩
  clear ho15 hb15 HO13 HB13 HY13 HO14 HB14 HY14 HX14 HFZ HUX
  have HLo : Hid (w.heap.size ≤ gx) := by
    have h1 := HBx.out
    show w.heap.size ≤ gx
    omega
  go_wp2
  go_loopw [15] (fun i wr => ∃ k : Nat, i = .int .i64 k ∧ k ≤ 16 ∧ Hid (wr.ownsRow w11.heap.size 5 1 (.slice (some ⟨gx, 0, none⟩) 16 c12) 16 (bv (mix k FZ FX))) ∧ Hid (Bys wr (some ⟨gz, 0, none⟩) FZ) ∧ Hid (Bys wr (some ⟨gy, 0, none⟩) [97, 98]) ∧ Hid (Below w.heap.size w wr)) (fun i _ => 16 - (intOf i).toNat)
  case atStart => exact ⟨0, rfl, by omega, by rw [mix_zero]; exact HO15.out, HZ15.out, HY15.out, HB15.out⟩
  case round =>
    obtain ⟨k, rfl, hk, HO, HZ, HYk, HB⟩ := hrel
    by_cases hlt : k < 16
    · obtain ⟨z, hz⟩ : ∃ z, FZ[k]? = some z := ⟨FZ[k]'(by have := HLZ.out; omega), List.getElem?_eq_getElem (by have := HLZ.out; omega)⟩
      have hcz := cells_of HZ.out k z hz
      rw [Nat.zero_add] at hcz
      obtain ⟨x0, hx0⟩ : ∃ x0, (mix k FZ FX)[k]? = some x0 := ⟨(mix k FZ FX)[k]'(by rw [mix_len HLZ.out HLX.out]; omega), List.getElem?_eq_getElem _⟩
      have hcx := cells_of (bys_row HO.out).1 k x0 hx0
      rw [Nat.zero_add] at hcx
      have hfx := World.ownsRow.frozenAt HO.out k
      have hset := row_set (k := k) (y := z) HO.out
      rw [mix_next HLZ.out HLX.out hz] at hset
      have HO' : Hid _ := hset.1
      have HZ' : Hid _ := bys_grown HZ.out hset.2 (by omega)
      have HY' : Hid _ := bys_grown HYk.out hset.2 (by omega)
      have HB' : Hid (Below w.heap.size w (wr.setCell ⟨gx, k, none⟩ (.int .u8 z))) := HB.out.grown hset.2 HB.out.size (fun j hj => by cases hj; exact HLo.out)
      have hlt' : (k : Int) < 16 := by omega
      clear hset hz hx0
      go_wp2
      exact ⟨⟨k + 1, by go_num, by omega, HO'.out, HZ'.out, HY'.out, HB'.out⟩, by simp [intOf]; omega⟩
    · obtain rfl : k = 16 := by omega
      rw [mix_all HLZ.out HLX.out] at HO
      go_wp2_with fail
      refine (HUZ.out (some ⟨gx, 0, none⟩) c12 wr (bys_row HO.out).1 HCx.out.1 HCx.out.2).mono ?_
      rintro e w17 ⟨a17, c17, rfl, ho17, hb17⟩
      have HB17 : Hid (Below w.heap.size w w17) := trans2 HB.out hb17
      have HY17 : Hid _ := Bys.below HYk.out hb17
      have HU17 : Hid (Bys w17 a17 [99, 100]) := (bys_row ho17).1
      clear ho17 hb17 HB HYk HO HZ
      simp only [List.length_cons, List.length_nil]
      have hc3 := conv_at w17 #[.int .u8 97, .int .u8 98] 2 2 w17.heap.size rfl
      have hal : Below w17.heap.size w17 (w17.alloc (.cells #[.int .u8 97, .int .u8 98] 5 (2, 3))) := (Below.refl _ _).alloc (Nat.le_refl _) _
      have HB18 : Hid (Below w.heap.size w (w17.alloc (.cells #[.int .u8 97, .int .u8 98] 5 (2, 3)))) := trans2 HB17.out hal
      have HY18 : Hid _ := Bys.below HY17.out hal
      have HU18 : Hid _ := Bys.below HU17.out hal
      have HX18 : Hid (Bys (w17.alloc (.cells #[.int .u8 97, .int .u8 98] 5 (2, 3))) (some ⟨w17.heap.size, 0, none⟩) [97, 98]) := lit_bys w17 [97, 98] (2, 3)
      clear hal
      go_wp2_with fail
      clear hc3
      generalize World.alloc w17 _ = w18 at HB18 HY18 HU18 HX18 ⊢
      refine (same_any' (ys := [97, 98]) HY18.out HX18.out (by decide)).mono ?_
      rintro e w19 ⟨rfl, hb19⟩
      have HB19 : Hid (Below w.heap.size w w19) := trans2 HB18.out hb19
      have HU19 : Hid _ := Bys.below HU18.out hb19
      clear hb19 HB18 HY18 HU18 HX18
      have hc4 := conv_at w19 #[.int .u8 99, .int .u8 100] 2 2 w19.heap.size rfl
      have hal : Below w19.heap.size w19 (w19.alloc (.cells #[.int .u8 99, .int .u8 100] 5 (2, 3))) := (Below.refl _ _).alloc (Nat.le_refl _) _
      have HB20 : Hid (Below w.heap.size w (w19.alloc (.cells #[.int .u8 99, .int .u8 100] 5 (2, 3)))) := trans2 HB19.out hal
      have HU20 : Hid _ := Bys.below HU19.out hal
      have HX20 : Hid (Bys (w19.alloc (.cells #[.int .u8 99, .int .u8 100] 5 (2, 3))) (some ⟨w19.heap.size, 0, none⟩) [99, 100]) := lit_bys w19 [99, 100] (2, 3)
      clear hal
      go_wp2_with fail
      clear hc4
      generalize World.alloc w19 _ = w20 at HB20 HU20 HX20 ⊢
      refine (same_any' (ys := [99, 100]) HU20.out HX20.out (by decide)).mono ?_
      rintro e w21 ⟨rfl, hb21⟩
      have HB21 : Hid (Below w.heap.size w w21) := trans2 HB20.out hb21
      clear hb21
      go_wp2
      go_ret
      exact ⟨rfl, HB21.out⟩

theorem unframes_walk (a : Option Addr) (c : Nat) (xs : List Int) (w : World) (h : Bys w a xs ∧ Byt xs ∧ (a = none → c = 0) ∧ xs.length ≤ maxLen) (hc : xs.length ≤ c ∧ c ≤ maxLen) :
    Calls Try.prog 6 #[.slice a xs.length c] w fun e w' => e = .returned (.bool true) ∧ Below w.heap.size w w' := by
  by_cases hl : xs.length ≤ 20000
  · exact unframes_short a c xs w h.1 h.2.1 h.2.2.1 hl hc
  · exact unframes_long a c xs w h.2.2.2 (by omega)
end Go.Proofs.Ytdjibjmhjofedab
