/-
  awake.
-/
import Derived.Test.YtdjibjmhjofedacWFrameP
import Derived.Test.YtdjibjmhjofedacWReadText
import Derived.Lib.SlBytesConst
namespace Go.Proofs.Ytdjibjmhjofedac
open Go.RowKit

theorem num300 : numL 300 = [172, 2] := by rw [numL_big (by omega), numL_small (by omega)]; rfl
theorem text_ab : textL ⟨#[97, 98]⟩ = [2, 97, 98] := by
  unfold textL
  rw [if_pos (by decide), show (ByteArray.mk #[97, 98]).size = 2 by rfl, numL_small (by omega)]
  rfl
theorem textC_ab : textC ⟨#[97, 98]⟩ = 0 := by rfl
/-- Bytes that are written out. -/
theorem lit_bys (w : World) (zs : List Int) (fr : Nat × Nat) : Bys (w.alloc (.cells (bv zs).toArray 5 fr)) (some ⟨w.heap.size, 0, none⟩) zs := by
  refine .inr ⟨w.heap.size, 0, rfl, by simp, fun j z hz => ?_⟩
  rw [Nat.zero_add, World.cell?_alloc_mark, List.getElem?_toArray]
  unfold bv
  rw [List.getElem?_map, hz]
  rfl
theorem rd_awake : rdAny 0 [172, 2] = (300, 2, 0) := by decide +kernel
theorem rt_awake : rtAny 0 [2, 97, 98] = (⟨#[97, 98]⟩, 3, 0) := by decide +kernel
theorem bys_row {w : World} {base n c : Nat} {a : Option Addr} {zs : List Int} (h : w.ownsRow base 5 1 (.slice a n c) n (bv zs)) : Bys w a zs ∧ n = zs.length := by
  obtain ⟨a', c', hv, hL, _, hn, _⟩ := bys_of_owns h
  simp only [Value.slice.injEq] at hv
  rw [hv.1]
  exact ⟨hL, hn⟩
theorem row_cap {w : World} {base n c : Nat} {a : Option Addr} {zs : List Int} (h : w.ownsRow base 5 1 (.slice a n c) n (bv zs)) : Bys w a zs ∧ zs.length ≤ c ∧ c ≤ maxLen := by
  obtain ⟨a', c', hv, hL, _, hn, h1, h2⟩ := bys_of_owns h
  simp only [Value.slice.injEq] at hv
  rw [hv.1, hv.2.2]
  exact ⟨hL, h1, h2⟩

theorem conv_at (w : World) (C : Array Value) (n c g : Nat) (hg : g = w.heap.size) :
    (convert 26 26 (.slice (some ⟨g, 0, none⟩) n c)).run Try.prog (w.alloc (.cells C 5)) = .ok (.slice (some ⟨g, 0, none⟩) n c) (w.alloc (.cells C 5 (C.size, C.size + 1))) := by
  subst hg
  exact Lib.run_convert_bytes_const w 26 5 C n c Try.underlying26 Try.underlying5
/-- Two pieces that are written out. -/
theorem two_pcs (w : World) (y z : List Int) (hy : Byt y) (hz : Byt z) (f1 f2 : Nat × Nat) (c1 c2 : Nat) :
    Pcs (((w.alloc (.cells (bv y).toArray 5 f1)).alloc (.cells (bv z).toArray 5 f2)).alloc (.cells #[.slice (some ⟨w.heap.size, 0, none⟩) y.length c1, .slice (some ⟨w.heap.size + 1, 0, none⟩) z.length c2] 26)) (some ⟨w.heap.size + 2, 0, none⟩)
      [(some ⟨w.heap.size, 0, none⟩, c1, y), (some ⟨w.heap.size + 1, 0, none⟩, c2, z)] := by
  have al : ∀ (v : World) (o : Obj), Below v.heap.size v (v.alloc o) := fun v o => (Below.refl _ _).alloc (Nat.le_refl _) o
  have b1 := lit_bys w y f1
  have b2 := lit_bys (w.alloc (.cells (bv y).toArray 5 f1)) z f2
  rw [show (w.alloc (.cells (bv y).toArray 5 f1)).heap.size = w.heap.size + 1 by simp] at b2
  refine ⟨.inr ⟨w.heap.size + 2, 0, rfl, by simp, fun j p hp => ?_⟩, fun p hp => ?_⟩
  · have h := cell_two_new ((w.alloc (.cells (bv y).toArray 5 f1)).alloc (.cells (bv z).toArray 5 f2)) (.slice (some ⟨w.heap.size, 0, none⟩) y.length c1) (.slice (some ⟨w.heap.size + 1, 0, none⟩) z.length c2) 26 j p.val (by
      match j, hp with
      | 0, h => simp at h; subst h; rfl
      | 1, h => simp at h; subst h; rfl
      | j + 2, h => simp at h)
    rw [addr_add] at h
    rw [show ((w.alloc (.cells (bv y).toArray 5 f1)).alloc (.cells (bv z).toArray 5 f2)).heap.size = w.heap.size + 2 by simp] at h
    exact h
  · simp only [List.mem_cons, List.not_mem_nil, or_false] at hp
    rcases hp with rfl | rfl
    · exact ⟨(b1.below (al _ _)).below (al _ _), hy, fun h => by cases h⟩
    · exact ⟨b2.below (al _ _), hz, fun h => by cases h⟩

set_option maxHeartbeats 3200000 in
set_option maxRecDepth 100000 in
theorem awake_any (w : World) : Calls Try.prog 6 #[] w fun e w' => e = .returned (.bool true) ∧ Below w.heap.size w w' := by
  go_enter Try.func6, Try.ntmps6
  go_wp2_with fail
  refine (number_any 300 _ (by omega)).mono ?_
  rw [if_pos (by omega), if_pos (by omega), show (300 : Int).toNat = 300 by rfl, num300]
  rintro e w1 ⟨a1, c1, zs1, rfl, rfl, ho1, hb1⟩
  have HB1 : Hid _ := hb1
  have HX1 : Hid _ := (bys_row ho1).1
  clear ho1 hb1
  simp only [List.length_cons, List.length_nil]
  go_wp2_with fail
  have HL2 : Hid (Bys (w1.alloc (.cells #[.int .u8 172, .int .u8 2] 5)) (some ⟨w1.heap.size, 0, none⟩) [172, 2]) := lit_bys w1 [172, 2] (0, 0)
  refine (readNumber_any _ 2 [172, 2] 0 _ HL2.out (by intro z hz; simp at hz; omega) (by decide)).mono ?_
  rw [rd_awake]
  rintro e w2 ⟨rfl, rfl⟩
  have HB2 : Hid (Below w.heap.size w (w1.alloc (.cells #[.int .u8 172, .int .u8 2] 5))) := HB1.out.alloc HB1.out.size _
  have HX2 : Hid (Bys (w1.alloc (.cells #[.int .u8 172, .int .u8 2] 5)) a1 [172, 2]) := Bys.below HX1.out ((Below.refl _ _).alloc (Nat.le_refl _) _)
  clear HL2
  generalize World.alloc w1 _ = w2 at HB2 HX2 ⊢
  clear HB1 HX1
  go_wp2_with fail
  refine (text_any ⟨#[97, 98]⟩ _ (by decide)).mono ?_
  rw [text_ab, textC_ab]
  rintro e w3 ⟨a3, c3, rfl, ho3, hb3⟩
  have HB3 : Hid _ := trans2 HB2.out hb3
  have HX3 : Hid _ := Bys.below HX2.out hb3
  clear ho3 hb3 HB2 HX2
  simp only [List.length_cons, List.length_nil]
  go_wp2_with fail
  have HL4 : Hid (Bys (w3.alloc (.cells #[.int .u8 2, .int .u8 97, .int .u8 98] 5)) (some ⟨w3.heap.size, 0, none⟩) [2, 97, 98]) := lit_bys w3 [2, 97, 98] (0, 0)
  refine (readText_any _ 3 [2, 97, 98] 0 _ HL4.out (by intro z hz; simp at hz; omega) (by decide) (by decide) (by decide)).mono ?_
  rw [rt_awake]
  rintro e w4 ⟨rfl, rfl⟩
  have HB4 : Hid (Below w.heap.size w (w3.alloc (.cells #[.int .u8 2, .int .u8 97, .int .u8 98] 5))) := HB3.out.alloc HB3.out.size _
  have HX4 : Hid (Bys (w3.alloc (.cells #[.int .u8 2, .int .u8 97, .int .u8 98] 5)) a1 [172, 2]) := Bys.below HX3.out ((Below.refl _ _).alloc (Nat.le_refl _) _)
  clear HL4
  generalize World.alloc w3 _ = w4 at HB4 HX4 ⊢
  clear HB3 HX3
  have hc1 := conv_at w4 #[.int .u8 97] 1 1 w4.heap.size rfl
  have hc2 := conv_at (w4.alloc (.cells #[.int .u8 97] 5 (1, 2))) #[.int .u8 98] 1 1 (w4.heap.size + 1) (by simp)
  have HP : Hid _ := two_pcs w4 [97] [98] (by intro z hz; simp at hz; omega) (by intro z hz; simp at hz; omega) (1, 2) (1, 2) 1 1
  have HB5 : Hid (Below w4.heap.size w4 (((w4.alloc (.cells #[.int .u8 97] 5 (1, 2))).alloc (.cells #[.int .u8 98] 5 (1, 2))).alloc (.cells #[.slice (some ⟨w4.heap.size, 0, none⟩) 1 1, .slice (some ⟨w4.heap.size + 1, 0, none⟩) 1 1] 26))) :=
    (((Below.refl _ _).alloc (Nat.le_refl _) _).alloc (by simp) _).alloc (by simp; omega) _
  have HP' : Hid (Pcs (((w4.alloc (.cells #[.int .u8 97] 5 (1, 2))).alloc (.cells #[.int .u8 98] 5 (1, 2))).alloc (.cells #[.slice (some ⟨w4.heap.size, 0, none⟩) 1 1, .slice (some ⟨w4.heap.size + 1, 0, none⟩) 1 1] 26)) (some ⟨w4.heap.size + 2, 0, none⟩) [(some ⟨w4.heap.size, 0, none⟩, 1, [97]), (some ⟨w4.heap.size + 1, 0, none⟩, 1, [98])]) := HP.out
  clear HP
  go_wp2_with fail
  clear hc1 hc2
  refine (frame_any (some ⟨w4.heap.size + 2, 0, none⟩) 2 _ _ HP'.out (show 2 ≤ 262144 by omega) (show 2 ≤ 1000000 by omega)).mono ?_
  rw [show bodyOf [(some ⟨w4.heap.size, 0, none⟩, 1, [97]), (some ⟨w4.heap.size + 1, 0, none⟩, 1, [98])] = [97, 98] by rfl]
  rintro e w6 ⟨a6, c6, rfl, ho6, hb6⟩
  have HB6 : Hid (Below w.heap.size w w6) := trans2 (trans2 HB4.out HB5.out) hb6
  have HX6 : Hid (Bys w6 a1 [172, 2]) := Bys.below (Bys.below HX4.out HB5.out) hb6
  have HF6 : Hid _ := row_cap ho6
  have hfl : (frameL [97, 98]).length = 16 := frame_len [97, 98]
  have hab : Byt [97, 98] := by intro z hz; simp at hz; omega
  have hu := unf_frame hab (by decide)
  have hyf : Byt (frameL [97, 98]) := frame_byt hab (by decide)
  have HU : Hid _ := unframe_any a6 c6 (frameL [97, 98]) w6 HF6.out.1 hyf HF6.out.2.1 HF6.out.2.2 (by omega)
  rw [hu.1, hu.2, hfl] at HU
  rw [hfl]
  clear ho6 hb6 HP' HB4 HB5 HX4 hu hyf HF6 hfl hab
  generalize World.alloc _ _ = w5
  go_wp2_with fail
  refine Calls.mono HU.out ?_
  rintro e w7 ⟨a7, c7, rfl, ho7, hb7⟩
  have HB7 : Hid (Below w.heap.size w w7) := trans2 HB6.out hb7
  have hx7 : Bys w7 a1 [172, 2] := Bys.below HX6.out hb7
  clear HU hb7 HB6 HX6
  simp only [List.length_cons, List.length_nil] at ho7 ⊢
  obtain ⟨g7, cap7, hv7, -⟩ := form_of ho7 (by omega)
  simp only [Value.slice.injEq, true_and] at hv7
  obtain ⟨rfl, rfl⟩ := hv7
  rcases hx7 with h | ⟨b1, o1, rfl, hlt1, hs1⟩
  · cases h
  have hq0 := hs1 0 172 rfl
  have hq1 := hs1 1 2 rfl
  rw [Nat.add_zero] at hq0
  have hconv := take_conv (w := w7) (b := g7) (o := 0) (n := 2) (c := c7) (xs := [97, 98]) (cells_of (bys_row ho7).1) (by decide) 0
  rw [World.drewN_zero] at hconv
  rw [show strOfNums (([97, 98] : List Int).take 2) = ⟨#[97, 98]⟩ by rfl] at hconv
  clear ho7 hs1
  go_wp2
  go_ret
  exact ⟨rfl, HB7.out⟩
end Go.Proofs.Ytdjibjmhjofedac
