import Derived.Test.YtdjfeomdiljaeaaGreatDoorWReadText
import Derived.Test.YtdjfeomdiljaeaaGreatDoorWRefRead
import Derived.Test.YtdjfeomdiljaeaaGreatDoorNtDf
namespace Go.Proofs.YtdjfeomdiljaeaaGreatDoor
open Go.RowKit

set_option maxHeartbeats 3200000 in
set_option maxRecDepth 100000 in
theorem refReadText_any (a : Option Addr) (c : Nat) (xs : List Int) (at' : Int) (w : World) (hx : Bys w a xs) (hb : Byt xs) (hm : xs.length ≤ 1000000) (hc : xs.length ≤ c) (hcm : c ≤ maxLen) :
    Calls Tryz.prog 170 #[.slice a xs.length c, .int .i64 at'] w fun e w' => e = .returned (.tuple #[.string (rtAny at' xs).1, .int .i64 (rtAny at' xs).2.1, .int .i64 (rtAny at' xs).2.2]) ∧ w' = w := by
  unfold maxLen at hcm
  have HR : Hid _ := refRead_any a c xs at' w hx hb hm
  obtain ⟨n, b, e, he⟩ : ∃ n b e, rdAny at' xs = (n, b, e) := ⟨_, _, _, rfl⟩
  have HT : Hid (rtAny at' xs = if e ≠ 0 then (ByteArray.empty, 0, e) else if 262144 < n then (ByteArray.empty, 0, 2) else if xs.length - b < n then (ByteArray.empty, 0, 21) else (strOfNums ((xs.drop b.toNat).take n.toNat), b + n, 0)) := by
    show rtAny at' xs = _
    unfold rtAny
    rw [he]
  rw [he] at HR
  by_cases h0 : e = 0
  · subst h0
    have hok := rdAny_ok hb he
    obtain ⟨N, rfl⟩ := Int.eq_ofNat_of_zero_le hok.2.1
    obtain ⟨B, rfl⟩ := Int.eq_ofNat_of_zero_le (show 0 ≤ b by omega)
    simp only [ne_eq, not_true_eq_false, if_false, Int.toNat_natCast] at HT
    have hB : (B : Int) ≤ (xs.length : Int) := hok.2.2.2.2.1
    have hN : N ≤ 2147483647 := by omega
    have hat1 : 0 ≤ at' ∧ at' < (B : Int) := ⟨hok.1, hok.2.2.2.1⟩
    rcases hx with rfl | ⟨bb, o, rfl, h1, hs⟩
    · simp at hB; omega
    · have HS : Hid _ := hs
      clear hok he hs hb h1
      by_cases h2 : 262144 < N
      · have h2' : (262144 : Int) < (N : Int) := by omega
        have HX : Hid (rtAny at' xs = (ByteArray.empty, 0, 2)) := by have := HT.out; rw [if_pos h2'] at this; exact this
        rw [HX.out]
        clear HT HX
        go_enter Tryz.func170, Tryz.ntmps170
        go_wp2_with (first | (go_at_call 111; refine Calls.mono HR.out ?_; rintro e w1 ⟨rfl, rfl⟩) | fail)
        go_ret3
        exact ⟨rfl, rfl⟩
      · have h2' : ¬ (262144 : Int) < (N : Int) := by omega
        by_cases h3 : xs.length < B + N
        · have h3' : (xs.length : Int) - (B : Int) < (N : Int) := by omega
          have HX : Hid (rtAny at' xs = (ByteArray.empty, 0, 21)) := by have := HT.out; rw [if_neg h2', if_pos h3'] at this; exact this
          rw [HX.out]
          clear HT HX
          go_enter Tryz.func170, Tryz.ntmps170
          go_wp2_with (first | (go_at_call 111; refine Calls.mono HR.out ?_; rintro e w1 ⟨rfl, rfl⟩) | fail)
          go_ret3
          exact ⟨rfl, rfl⟩
        · have h3' : ¬ (xs.length : Int) - (B : Int) < (N : Int) := by omega
          have HX : Hid (rtAny at' xs = (strOfNums ((xs.drop B).take N), (B : Int) + (N : Int), 0)) := by have := HT.out; rw [if_neg h2', if_neg h3'] at this; exact this
          rw [HX.out]
          by_cases hBc : B < c
          · have hconv := bytes_conv (B := B) (N := N) (c := c - B) HS.out (by omega)
            generalize strOfNums ((xs.drop B).take N) = S at hconv ⊢
            have hle1 : (B : Int) + (N : Int) ≤ (c : Int) := by omega
            have hle2 : (B : Int) ≤ (B : Int) + (N : Int) := by omega
            have hne : ¬ (c : Int) - (B : Int) = 0 := by omega
            have hne' : ¬ c - B = 0 := by omega
            clear HT HX
            go_enter Tryz.func170, Tryz.ntmps170
            go_wp2_with (first | (go_at_call 111; refine Calls.mono HR.out ?_; rintro e w1 ⟨rfl, rfl⟩) | fail)
            go_ret3
            exact ⟨rfl, rfl⟩
          · obtain rfl : B = c := by omega
            obtain rfl : N = 0 := by omega
            have hconv := bytes_conv (B := 0) (N := 0) (c := 0) HS.out (by omega)
            rw [List.take_zero] at hconv
            rw [List.take_zero]
            rw [Nat.add_zero] at hconv
            generalize strOfNums [] = S at hconv ⊢
            clear HT HX
            go_enter Tryz.func170, Tryz.ntmps170
            go_wp2_with (first | (go_at_call 111; refine Calls.mono HR.out ?_; rintro e w1 ⟨rfl, rfl⟩) | fail)
            go_ret3
            exact ⟨by simp, rfl⟩
  · have hne : (e != 0) = true := by simpa using h0
    have HX : Hid (rtAny at' xs = (ByteArray.empty, 0, e)) := by have := HT.out; rw [if_pos h0] at this; exact this
    rw [HX.out]
    clear HT HX he hx hb
    go_enter Tryz.func170, Tryz.ntmps170
    go_wp2_with (first | (go_at_call 111; refine Calls.mono HR.out ?_; rintro e w1 ⟨rfl, rfl⟩) | fail)
    go_ret3
    exact ⟨rfl, rfl⟩
end Go.Proofs.YtdjfeomdiljaeaaGreatDoor
namespace Go.Proofs.YtdjfeomdiljaeaaGreatDoor
open Go.RowKit
set_option linter.unusedVariables false
set_option linter.unusedSimpArgs false

theorem cells_3E {W : World} {b : Nat} {t : TypeId} {x0 x1 x2 : Value} (h : W.heap[b]? = some (.cells #[x0, x1, x2] t (0, 0))) : W.cell? ⟨b, 0, none⟩ = some x0 ∧ W.cell? ⟨b, 1, none⟩ = some x1 ∧ W.cell? ⟨b, 2, none⟩ = some x2 := by
  simp [World.cell?, h]
theorem free_3E {W : World} {b : Nat} {t : TypeId} {x0 x1 x2 : Value} (h : W.heap[b]? = some (.cells #[x0, x1, x2] t (0, 0))) (o : Nat) : W.frozen? ⟨b, o, none⟩ = false := by
  simp [World.frozen?, h]
/-- An eye that stands at p; b: something was not there. -/
structure EyS (w0 w : World) (br : Nat) (a : Option Addr) (c : Nat) (xs : List Int) (p : Nat) (b : Bool) : Prop where
  box : w.heap[br]? = some (.cells #[.slice a xs.length c, .int .i64 p, .bool b] 83 (0, 0))
  chg : Chg w0 w (fun j => j = br)
  le : p ≤ xs.length
theorem EyS.bys {w0 w : World} {br : Nat} {a : Option Addr} {c : Nat} {xs : List Int} {p : Nat} {b : Bool} (h : EyS w0 w br a c xs p b) (hc : RdC w0 br a c xs) : Bys w a xs := hc.bys.chg h.chg (fun hz b o hb => hc.ne hz b o hb)
theorem EyS.low {w0 w w' : World} {br : Nat} {a : Option Addr} {c : Nat} {xs : List Int} {p B : Nat} {b : Bool} (h : EyS w0 w br a c xs p b) (hb : Below B w w') (hB : w0.heap.size ≤ B) (hlt : br < w0.heap.size) : EyS w0 w' br a c xs p b :=
  ⟨by rw [hb.block br (by omega)]; exact h.box, h.chg.low hb hB, h.le⟩
theorem EyS.ext {w0 w w' : World} {br : Nat} {a : Option Addr} {c : Nat} {xs : List Int} {p : Nat} {b : Bool} (h : EyS w0 w br a c xs p b) (hb : Below w.heap.size w w') : EyS w0 w' br a c xs p b :=
  ⟨kept_block hb h.box, h.chg.trans (Chg.of_below hb _), h.le⟩
/-- How an eye's reading ends: if the bytes of a y stand at p (and nothing was amiss), x is y. -/
def EyE {A : Type} (w0 : World) (br : Nat) (a : Option Addr) (c : Nat) (xs : List Int) (p : Nat) (b : Bool) (enc : A → List Int) (good : A → Prop) (eqv : A → A → Prop) (val : A → Value) (P : A → World → Prop) (w : World) (e : Ending) (w' : World) : Prop :=
  ∃ x q b', e = .returned (val x) ∧ EyS w0 w' br a c xs q b' ∧ Chg w w' (fun j => j = br) ∧ P x w' ∧ ∀ y r, b = false → good y → xs.drop p = enc y ++ r → eqv x y ∧ b' = false ∧ xs.drop q = r
set_option maxHeartbeats 1600000 in
theorem ey_number (w0 : World) (br : Nat) (a : Option Addr) (c : Nat) (xs : List Int) (p : Nat) (b : Bool) (w : World) (hc : RdC w0 br a c xs) (h : EyS w0 w br a c xs p b) :
    Calls Tryz.prog 80 #[.pointer (some ⟨br, 0, none⟩)] w (EyE w0 br a c xs p b nmL inN Eq intV (fun x _ => inN x) w) := by
  have HS : Hid (EyS w0 w br a c xs p b) := h
  have HX : Hid (Bys w a xs) := h.bys hc
  obtain ⟨c0, c1, c2⟩ := cells_3E h.box
  have f2 := free_3E h.box
  cases b with
  | true =>
    clear h hc
    go_enter Tryz.func80, Tryz.ntmps80
    go_wp2_with fail
    go_ret
    exact ⟨0, p, true, rfl, HS.out, Chg.refl _ _, (show inN 0 by decide), fun y r hb => by cases hb⟩
  | false =>
  rcases rd_say hc.byt p h.le with ⟨v, q, he, hg, hsd⟩ | ⟨he, hno⟩
  · have HR : Hid (∀ w', Below w.heap.size w w' → Calls Tryz.prog 111 #[.slice a xs.length c, .int .i64 p] w' fun e w'' => e = .returned (.tuple #[.int .i64 v, .int .i64 q, .int .i64 0]) ∧ w'' = w') := fun w' hb' => by
      have := refRead_any a c xs p w' (HX.out.below hb') hc.byt hc.len
      rw [he] at this
      exact this
    have HG : Hid (inN v) := hg
    have HSD : Hid (Sd xs p (nmL v) q) := hsd
    clear h hc hg hsd he
    go_enter Tryz.func80, Tryz.ntmps80
    go_upto_region 3 with fail
    go_region_held3 (fun w' => w'.cell? ⟨br, 0, none⟩ = some (.slice a xs.length c) ∧ w'.cell? ⟨br, 1, none⟩ = some (.int .i64 p)) (first | exact ⟨c0, c1⟩ | go_keep)
      (first
      | (go_at_call 111; refine (HR.out _ (below_drew (Below.refl _ _))).mono ?_; rintro e w1 ⟨rfl, rfl⟩)
      | fail)
    go_wp2_with fail
    go_ret
    have hch : Chg w ((World.drew w).setCell ⟨br, 1, none⟩ (.int .i64 q)) (fun j => j = br) := (Chg.drewN (Chg.refl _ _)).trans (Chg.set _ _ _)
    refine ⟨v, q, false, rfl, ⟨same_blk (w := World.drew w) HS.out.box rfl, HS.out.chg.trans hch, HSD.out.2.2⟩, hch, HG.out, fun y r _ hy hd => ?_⟩
    rw [HSD.out.1] at hd
    have := nm_pre HG.out hy hd
    exact ⟨this.1, rfl, this.2⟩
  · obtain ⟨v, nx, cd, hq⟩ : ∃ v nx cd, rdAny p xs = (v, nx, cd) := ⟨_, _, _, rfl⟩
    rw [hq] at he
    have hcd : (cd != 0) = true := by simpa using he
    have HR : Hid (∀ w', Below w.heap.size w w' → Calls Tryz.prog 111 #[.slice a xs.length c, .int .i64 p] w' fun e w'' => e = .returned (.tuple #[.int .i64 v, .int .i64 nx, .int .i64 cd]) ∧ w'' = w') := fun w' hb' => by
      have := refRead_any a c xs p w' (HX.out.below hb') hc.byt hc.len
      rw [hq] at this
      exact this
    have HNO : Hid (∀ x r, inN x → xs.drop p ≠ nmL x ++ r) := hno
    clear h hc he hno hq
    go_enter Tryz.func80, Tryz.ntmps80
    go_upto_region 3 with fail
    go_region_held3 (fun w' => w'.cell? ⟨br, 0, none⟩ = some (.slice a xs.length c) ∧ w'.cell? ⟨br, 1, none⟩ = some (.int .i64 p)) (first | exact ⟨c0, c1⟩ | go_keep)
      (first
      | (go_at_call 111; refine (HR.out _ (below_drew (Below.refl _ _))).mono ?_; rintro e w1 ⟨rfl, rfl⟩)
      | fail)
    go_wp2_with fail
    go_ret
    have hch : Chg w ((World.drew w).setCell ⟨br, 2, none⟩ (.bool true)) (fun j => j = br) := (Chg.drewN (Chg.refl _ _)).trans (Chg.set _ _ _)
    exact ⟨0, p, true, rfl, ⟨same_blk (w := World.drew w) HS.out.box rfl, HS.out.chg.trans hch, HS.out.le⟩, hch, (show inN 0 by decide), fun y r _ hy hd => absurd hd (HNO.out y r hy)⟩
set_option maxHeartbeats 1600000 in
theorem ey_text (w0 : World) (br : Nat) (a : Option Addr) (c : Nat) (xs : List Int) (p : Nat) (b : Bool) (w : World) (hc : RdC w0 br a c xs) (h : EyS w0 w br a c xs p b) :
    Calls Tryz.prog 113 #[.pointer (some ⟨br, 0, none⟩)] w (EyE w0 br a c xs p b textL sz262 Eq strV (fun x _ => sz262 x) w) := by
  have HS : Hid (EyS w0 w br a c xs p b) := h
  have HX : Hid (Bys w a xs) := h.bys hc
  obtain ⟨c0, c1, c2⟩ := cells_3E h.box
  have f2 := free_3E h.box
  cases b with
  | true =>
    clear h hc
    go_enter Tryz.func113, Tryz.ntmps113
    go_wp2_with fail
    go_ret
    exact ⟨⟨#[]⟩, p, true, rfl, HS.out, Chg.refl _ _, (show sz262 ⟨#[]⟩ by decide), fun y r hb => by cases hb⟩
  | false =>
  rcases rt_say hc.byt p h.le with ⟨v, q, he, hg, hsd⟩ | ⟨he, hno⟩
  · have HR : Hid (∀ w', Below w.heap.size w w' → Calls Tryz.prog 170 #[.slice a xs.length c, .int .i64 p] w' fun e w'' => e = .returned (.tuple #[.string v, .int .i64 q, .int .i64 0]) ∧ w'' = w') := fun w' hb' => by
      have := refReadText_any a c xs p w' (HX.out.below hb') hc.byt hc.len hc.cap hc.cm
      rw [he] at this
      exact this
    have HG : Hid (sz262 v) := hg
    have HSD : Hid (Sd xs p (textL v) q) := hsd
    clear h hc hg hsd he
    go_enter Tryz.func113, Tryz.ntmps113
    go_upto_region 3 with fail
    go_region_held3 (fun w' => w'.cell? ⟨br, 0, none⟩ = some (.slice a xs.length c) ∧ w'.cell? ⟨br, 1, none⟩ = some (.int .i64 p)) (first | exact ⟨c0, c1⟩ | go_keep)
      (first
      | (go_at_call 170; refine (HR.out _ (below_drew (Below.refl _ _))).mono ?_; rintro e w1 ⟨rfl, rfl⟩)
      | fail)
    go_wp2_with fail
    go_ret
    have hch : Chg w ((World.drew w).setCell ⟨br, 1, none⟩ (.int .i64 q)) (fun j => j = br) := (Chg.drewN (Chg.refl _ _)).trans (Chg.set _ _ _)
    refine ⟨v, q, false, rfl, ⟨same_blk (w := World.drew w) HS.out.box rfl, HS.out.chg.trans hch, HSD.out.2.2⟩, hch, HG.out, fun y r _ hy hd => ?_⟩
    rw [HSD.out.1] at hd
    have := tx_pre HG.out hy hd
    exact ⟨this.1, rfl, this.2⟩
  · obtain ⟨v, nx, cd, hq⟩ : ∃ v nx cd, rtAny p xs = (v, nx, cd) := ⟨_, _, _, rfl⟩
    rw [hq] at he
    have hcd : (cd != 0) = true := by simpa using he
    have HR : Hid (∀ w', Below w.heap.size w w' → Calls Tryz.prog 170 #[.slice a xs.length c, .int .i64 p] w' fun e w'' => e = .returned (.tuple #[.string v, .int .i64 nx, .int .i64 cd]) ∧ w'' = w') := fun w' hb' => by
      have := refReadText_any a c xs p w' (HX.out.below hb') hc.byt hc.len hc.cap hc.cm
      rw [hq] at this
      exact this
    have HNO : Hid (∀ x r, sz262 x → xs.drop p ≠ textL x ++ r) := hno
    clear h hc he hno hq
    go_enter Tryz.func113, Tryz.ntmps113
    go_upto_region 3 with fail
    go_region_held3 (fun w' => w'.cell? ⟨br, 0, none⟩ = some (.slice a xs.length c) ∧ w'.cell? ⟨br, 1, none⟩ = some (.int .i64 p)) (first | exact ⟨c0, c1⟩ | go_keep)
      (first
      | (go_at_call 170; refine (HR.out _ (below_drew (Below.refl _ _))).mono ?_; rintro e w1 ⟨rfl, rfl⟩)
      | fail)
    go_wp2_with fail
    go_ret
    have hch : Chg w ((World.drew w).setCell ⟨br, 2, none⟩ (.bool true)) (fun j => j = br) := (Chg.drewN (Chg.refl _ _)).trans (Chg.set _ _ _)
    exact ⟨⟨#[]⟩, p, true, rfl, ⟨same_blk (w := World.drew w) HS.out.box rfl, HS.out.chg.trans hch, HS.out.le⟩, hch, (show sz262 ⟨#[]⟩ by decide), fun y r _ hy hd => absurd hd (HNO.out y r hy)⟩
set_option maxHeartbeats 1600000 in
theorem ey_many (m : Int) (hm : 0 ≤ m) (w0 : World) (br : Nat) (a : Option Addr) (c : Nat) (xs : List Int) (p : Nat) (b : Bool) (w : World) (hc : RdC w0 br a c xs) (h : EyS w0 w br a c xs p b) :
    Calls Tryz.prog 112 #[.pointer (some ⟨br, 0, none⟩), .int .i64 m] w (EyE w0 br a c xs p b nmL (fun n => inN n ∧ n ≤ m) Eq intV (fun x _ => inN x ∧ x ≤ m) w) := by
  have HN : Hid _ := ey_number w0 br a c xs p b w hc h
  clear h hc
  go_enter Tryz.func112, Tryz.ntmps112
  go_upto_region 2 with (first
    | (go_at_call 80; refine Calls.mono HN.out ?_
       rintro e w1 ⟨x, q, b1, rfl, hs, hch, hx, ht⟩
       have HS : Hid (EyS w0 w1 br a c xs q b1) := hs
       have HCH : Hid (Chg w w1 (fun j => j = br)) := hch
       have HX : Hid (inN x) := hx
       have HT : Hid (∀ y r, b = false → inN y → xs.drop p = nmL y ++ r → x = y ∧ b1 = false ∧ xs.drop q = r) := ht
       clear hs hch hx ht)
    | fail)
  by_cases hlt : m < x
  · obtain ⟨c0, c1, c2⟩ := cells_3E HS.out.box
    have f2 := free_3E HS.out.box
    go_wp2_with fail
    go_ret
    have hch : Chg w1 (w1.setCell ⟨br, 2, none⟩ (.bool true)) (fun j => j = br) := Chg.set _ _ _
    exact ⟨0, q, true, rfl, ⟨same_blk HS.out.box rfl, HS.out.chg.trans hch, HS.out.le⟩, HCH.out.trans hch, ⟨by decide, hm⟩, fun y r hb hy hd => by have := (HT.out y r hb hy.1 hd).1; omega⟩
  · go_wp2_with fail
    go_ret
    exact ⟨x, q, b1, rfl, HS.out, HCH.out, ⟨HX.out, by omega⟩, fun y r hb hy hd => HT.out y r hb hy.1 hd⟩
end Go.Proofs.YtdjfeomdiljaeaaGreatDoor
