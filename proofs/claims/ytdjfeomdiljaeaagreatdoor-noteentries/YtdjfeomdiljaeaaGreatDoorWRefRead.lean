/-
  The document's answer for ReadNumber.
-/
import Derived.Test.YtdjfeomdiljaeaaGreatDoorWRead
namespace Go.Proofs.YtdjfeomdiljaeaaGreatDoor
open Go.RowKit

set_option maxHeartbeats 3200000 in
set_option maxRecDepth 100000 in
theorem refRead_some (b o c : Nat) (xs : List Int) (at' : Nat) (w : World) (hat : at' ≤ xs.length) (hs : ∀ (j : Nat) (z : Int), xs[j]? = some z → w.cell? ⟨b, o + j, none⟩ = some (.int .u8 z)) (hb : Byt xs) (hm : xs.length ≤ 1000000) (T1 T2 T3 : Int) (hT : rd at' 5 0 0 (xs.drop at') = (T1, T2, T3)) :
    Calls Tryz.prog 111 #[.slice (some ⟨b, o, none⟩) xs.length c, .int .i64 at'] w fun e w' => e = .returned (.tuple #[.int .i64 T1, .int .i64 T2, .int .i64 T3]) ∧ w' = w := by
  have HS : Hid _ := hs
  have HY : Hid (Byt xs) := hb
  obtain ⟨T, hTT⟩ : ∃ T, (T1, T2, T3) = T := ⟨_, rfl⟩
  rw [hTT] at hT
  have HT : Hid _ := hT
  have HQ : Hid _ := hTT
  have h0 : ¬ (at' : Int) < 0 := by omega
  have h1 : ¬ (xs.length : Int) < (at' : Int) := by omega
  clear hs hb hT hTT
  go_enter Tryz.func111, Tryz.ntmps111
  go_wp2
  clear h0 h1
  go_loop [7, 8, 9] (fun v u i => ∃ k y : Nat, v = .int .i64 y ∧ u = .int .i64 ((128 ^ k : Nat) : Int) ∧ i = .int .i64 k ∧ k ≤ 5 ∧ at' + k ≤ xs.length ∧ y < 128 ^ k ∧ Hid (rd at' (5 - k) k y (xs.drop (at' + k)) = T)) (fun _ _ i => 5 - (intOf i).toNat)
  case atStart => exact ⟨0, 0, rfl, rfl, rfl, by omega, by omega, by omega, HT.out⟩
  case round =>
    obtain ⟨k, y, rfl, rfl, rfl, hk, hak, hy, HTk⟩ := hrel
    rcases (show k = 0 ∨ k = 1 ∨ k = 2 ∨ k = 3 ∨ k = 4 ∨ k = 5 by omega) with rfl | rfl | rfl | rfl | rfl | rfl
    · rw [show (((128 ^ 0 : Nat)) : Int) = 1 from rfl]
      by_cases hlt : at' < xs.length
      · obtain ⟨x, hx⟩ : ∃ x, xs[at']? = some x := ⟨xs[at'], List.getElem?_eq_getElem hlt⟩
        have hc := HS.out (at') x hx
        have hxb := Byt.at HY.out hx
        have hdr := drop_atI hx
        have hand := and127 hxb
        have HTk' : Hid (rd at' (4 + 1) 0 y (x :: xs.drop (at' + 1)) = T) := by have := HTk.out; rw [show xs.drop (at' + 0) = x :: xs.drop (at' + 1) from hdr] at this; exact this
        obtain ⟨m, hmm⟩ : ∃ m, x.toNat % 128 = m := ⟨_, rfl⟩
        have hm128 : m < 128 := by omega
        rw [hmm] at hand
        obtain ⟨hor, hz⟩ := or_shift 0 y m (by omega) hy hm128 ((m : Int)) (by simp)
        obtain ⟨z, hzz⟩ : ∃ z, y + m * 128 ^ 0 = z := ⟨_, rfl⟩
        rw [hzz] at hor hz
        have hzi : (z : Int) = (y : Int) + (m : Int) * 1 := by omega
        have hlt' : (at' : Int) < (xs.length : Int) := by omega
        have HM : Hid _ := hmm
        have hc128 : x % 128 = (m : Int) := by omega
        clear hx hdr HTk
        by_cases hge : 128 ≤ x
        · have HX : Hid (rd at' (5 - 1) 1 z (xs.drop (at' + 1)) = T) := by have := HTk'.out; rw [rd_cont hge, HM.out, hzz] at this; exact this
          have HZ : Hid _ := hzi
          clear hzz hmm hzi
          go_wp2
          exact ⟨⟨1, z, by simp [HZ.out], by go_num, by go_num, by omega, by omega, hz, HX.out⟩, by simp [intOf]⟩
        · have hx128 : x < 128 := by omega
          by_cases hbad : (x = 0 ∧ 0 < 0) ∨ 2147483647 < z
          · have HX : Hid ((0, 0, 20) = T) := by have := HTk'.out; rw [rd_bad hx128 (by rw [HM.out, hzz]; exact hbad)] at this; exact this
            have hTe : T1 = 0 ∧ T2 = 0 ∧ T3 = 20 := by
              have := HQ.out.trans HX.out.symm
              simpa using this
            obtain ⟨rfl, rfl, rfl⟩ := hTe
            have HZ : Hid _ := hzi
            clear hzz hmm hzi HTk'
            exfalso
            have hz' : z < 128 := hz
            omega
          · have HX : Hid (((z : Int), (at' : Int) + 0 + 1, 0) = T) := by have := HTk'.out; rw [rd_good hx128 (by rw [HM.out, hzz]; exact hbad), HM.out, hzz] at this; exact this
            have hTe : T1 = (z : Int) ∧ T2 = (at' : Int) + 0 + 1 ∧ T3 = 0 := by
              have := HQ.out.trans HX.out.symm
              simpa using this
            obtain ⟨rfl, rfl, rfl⟩ := hTe
            have HZ : Hid _ := hzi
            have hz2 : ¬ (2147483647 : Int) < ((y : Int) + (m : Int)) := by omega
            skip
            clear hzz hmm hzi HTk'
            go_wp2
            all_goals (go_ret3; exact ⟨by simp [HZ.out], rfl⟩)
      · have hE : at' = xs.length := by omega
        have HX : Hid ((0, 0, 21) = T) := by have := HTk.out; rw [show at' + 0 = xs.length from hE, List.drop_length] at this; exact this
        have hTe : T1 = 0 ∧ T2 = 0 ∧ T3 = 21 := by
          have := HQ.out.trans HX.out.symm
          simpa using this
        obtain ⟨rfl, rfl, rfl⟩ := hTe
        have hE' : (xs.length : Int) ≤ (at' : Int) := by omega
        clear HTk
        go_wp2
        go_ret3
        exact ⟨rfl, rfl⟩
    · rw [show (((128 ^ 1 : Nat)) : Int) = 128 from rfl]
      by_cases hlt : at' + 1 < xs.length
      · obtain ⟨x, hx⟩ : ∃ x, xs[at' + 1]? = some x := ⟨xs[at' + 1], List.getElem?_eq_getElem hlt⟩
        have hc := HS.out (at' + 1) x hx
        have hxb := Byt.at HY.out hx
        have hdr := drop_atI hx
        have hand := and127 hxb
        have HTk' : Hid (rd at' (3 + 1) 1 y (x :: xs.drop (at' + 2)) = T) := by have := HTk.out; rw [show xs.drop (at' + 1) = x :: xs.drop (at' + 2) from hdr] at this; exact this
        obtain ⟨m, hmm⟩ : ∃ m, x.toNat % 128 = m := ⟨_, rfl⟩
        have hm128 : m < 128 := by omega
        rw [hmm] at hand
        obtain ⟨hor, hz⟩ := or_shift 1 y m (by omega) hy hm128 ((m : Int) * 128) (by rfl)
        obtain ⟨z, hzz⟩ : ∃ z, y + m * 128 ^ 1 = z := ⟨_, rfl⟩
        rw [hzz] at hor hz
        have hzi : (z : Int) = (y : Int) + (m : Int) * 128 := by omega
        have hlt' : (at' : Int) + 1 < (xs.length : Int) := by omega
        have HM : Hid _ := hmm
        have hc128 : x % 128 = (m : Int) := by omega
        clear hx hdr HTk
        by_cases hge : 128 ≤ x
        · have HX : Hid (rd at' (5 - 2) 2 z (xs.drop (at' + 2)) = T) := by have := HTk'.out; rw [rd_cont hge, HM.out, hzz] at this; exact this
          have HZ : Hid _ := hzi
          clear hzz hmm hzi
          go_wp2
          exact ⟨⟨2, z, by simp [HZ.out], by go_num, by go_num, by omega, by omega, hz, HX.out⟩, by simp [intOf]⟩
        · have hx128 : x < 128 := by omega
          by_cases hbad : (x = 0 ∧ 0 < 1) ∨ 2147483647 < z
          · have HX : Hid ((0, 0, 20) = T) := by have := HTk'.out; rw [rd_bad hx128 (by rw [HM.out, hzz]; exact hbad)] at this; exact this
            have hTe : T1 = 0 ∧ T2 = 0 ∧ T3 = 20 := by
              have := HQ.out.trans HX.out.symm
              simpa using this
            obtain ⟨rfl, rfl, rfl⟩ := hTe
            have HZ : Hid _ := hzi
            clear hzz hmm hzi HTk'
            by_cases hx0 : x = 0
            · subst hx0
              go_wp2
              go_ret3
              exact ⟨rfl, rfl⟩
            · have hx0' : (x == 0) = false := by simpa using hx0
              have hz2 : (2147483647 : Int) < (z : Int) := by omega
              exfalso
              have hz' : z < 16384 := hz
              omega
          · have HX : Hid (((z : Int), (at' : Int) + 1 + 1, 0) = T) := by have := HTk'.out; rw [rd_good hx128 (by rw [HM.out, hzz]; exact hbad), HM.out, hzz] at this; exact this
            have hTe : T1 = (z : Int) ∧ T2 = (at' : Int) + 1 + 1 ∧ T3 = 0 := by
              have := HQ.out.trans HX.out.symm
              simpa using this
            obtain ⟨rfl, rfl, rfl⟩ := hTe
            have HZ : Hid _ := hzi
            have hz2 : ¬ (2147483647 : Int) < ((y : Int) + (m : Int) * 128) := by omega
            have hx0 : (x == 0) = false := by simp; omega
            clear hzz hmm hzi HTk'
            go_wp2
            all_goals (go_ret3; exact ⟨by simp [HZ.out], rfl⟩)
      · have hE : at' + 1 = xs.length := by omega
        have HX : Hid ((0, 0, 21) = T) := by have := HTk.out; rw [show at' + 1 = xs.length from hE, List.drop_length] at this; exact this
        have hTe : T1 = 0 ∧ T2 = 0 ∧ T3 = 21 := by
          have := HQ.out.trans HX.out.symm
          simpa using this
        obtain ⟨rfl, rfl, rfl⟩ := hTe
        have hE' : (xs.length : Int) ≤ (at' : Int) + 1 := by omega
        clear HTk
        go_wp2
        go_ret3
        exact ⟨rfl, rfl⟩
    · rw [show (((128 ^ 2 : Nat)) : Int) = 16384 from rfl]
      by_cases hlt : at' + 2 < xs.length
      · obtain ⟨x, hx⟩ : ∃ x, xs[at' + 2]? = some x := ⟨xs[at' + 2], List.getElem?_eq_getElem hlt⟩
        have hc := HS.out (at' + 2) x hx
        have hxb := Byt.at HY.out hx
        have hdr := drop_atI hx
        have hand := and127 hxb
        have HTk' : Hid (rd at' (2 + 1) 2 y (x :: xs.drop (at' + 3)) = T) := by have := HTk.out; rw [show xs.drop (at' + 2) = x :: xs.drop (at' + 3) from hdr] at this; exact this
        obtain ⟨m, hmm⟩ : ∃ m, x.toNat % 128 = m := ⟨_, rfl⟩
        have hm128 : m < 128 := by omega
        rw [hmm] at hand
        obtain ⟨hor, hz⟩ := or_shift 2 y m (by omega) hy hm128 ((m : Int) * 16384) (by rfl)
        obtain ⟨z, hzz⟩ : ∃ z, y + m * 128 ^ 2 = z := ⟨_, rfl⟩
        rw [hzz] at hor hz
        have hzi : (z : Int) = (y : Int) + (m : Int) * 16384 := by omega
        have hlt' : (at' : Int) + 2 < (xs.length : Int) := by omega
        have HM : Hid _ := hmm
        have hc128 : x % 128 = (m : Int) := by omega
        clear hx hdr HTk
        by_cases hge : 128 ≤ x
        · have HX : Hid (rd at' (5 - 3) 3 z (xs.drop (at' + 3)) = T) := by have := HTk'.out; rw [rd_cont hge, HM.out, hzz] at this; exact this
          have HZ : Hid _ := hzi
          clear hzz hmm hzi
          go_wp2
          exact ⟨⟨3, z, by simp [HZ.out], by go_num, by go_num, by omega, by omega, hz, HX.out⟩, by simp [intOf]⟩
        · have hx128 : x < 128 := by omega
          by_cases hbad : (x = 0 ∧ 0 < 2) ∨ 2147483647 < z
          · have HX : Hid ((0, 0, 20) = T) := by have := HTk'.out; rw [rd_bad hx128 (by rw [HM.out, hzz]; exact hbad)] at this; exact this
            have hTe : T1 = 0 ∧ T2 = 0 ∧ T3 = 20 := by
              have := HQ.out.trans HX.out.symm
              simpa using this
            obtain ⟨rfl, rfl, rfl⟩ := hTe
            have HZ : Hid _ := hzi
            clear hzz hmm hzi HTk'
            by_cases hx0 : x = 0
            · subst hx0
              go_wp2
              go_ret3
              exact ⟨rfl, rfl⟩
            · have hx0' : (x == 0) = false := by simpa using hx0
              have hz2 : (2147483647 : Int) < (z : Int) := by omega
              exfalso
              have hz' : z < 2097152 := hz
              omega
          · have HX : Hid (((z : Int), (at' : Int) + 2 + 1, 0) = T) := by have := HTk'.out; rw [rd_good hx128 (by rw [HM.out, hzz]; exact hbad), HM.out, hzz] at this; exact this
            have hTe : T1 = (z : Int) ∧ T2 = (at' : Int) + 2 + 1 ∧ T3 = 0 := by
              have := HQ.out.trans HX.out.symm
              simpa using this
            obtain ⟨rfl, rfl, rfl⟩ := hTe
            have HZ : Hid _ := hzi
            have hz2 : ¬ (2147483647 : Int) < ((y : Int) + (m : Int) * 16384) := by omega
            have hx0 : (x == 0) = false := by simp; omega
            clear hzz hmm hzi HTk'
            go_wp2
            all_goals (go_ret3; exact ⟨by simp [HZ.out], rfl⟩)
      · have hE : at' + 2 = xs.length := by omega
        have HX : Hid ((0, 0, 21) = T) := by have := HTk.out; rw [show at' + 2 = xs.length from hE, List.drop_length] at this; exact this
        have hTe : T1 = 0 ∧ T2 = 0 ∧ T3 = 21 := by
          have := HQ.out.trans HX.out.symm
          simpa using this
        obtain ⟨rfl, rfl, rfl⟩ := hTe
        have hE' : (xs.length : Int) ≤ (at' : Int) + 2 := by omega
        clear HTk
        go_wp2
        go_ret3
        exact ⟨rfl, rfl⟩
    · rw [show (((128 ^ 3 : Nat)) : Int) = 2097152 from rfl]
      by_cases hlt : at' + 3 < xs.length
      · obtain ⟨x, hx⟩ : ∃ x, xs[at' + 3]? = some x := ⟨xs[at' + 3], List.getElem?_eq_getElem hlt⟩
        have hc := HS.out (at' + 3) x hx
        have hxb := Byt.at HY.out hx
        have hdr := drop_atI hx
        have hand := and127 hxb
        have HTk' : Hid (rd at' (1 + 1) 3 y (x :: xs.drop (at' + 4)) = T) := by have := HTk.out; rw [show xs.drop (at' + 3) = x :: xs.drop (at' + 4) from hdr] at this; exact this
        obtain ⟨m, hmm⟩ : ∃ m, x.toNat % 128 = m := ⟨_, rfl⟩
        have hm128 : m < 128 := by omega
        rw [hmm] at hand
        obtain ⟨hor, hz⟩ := or_shift 3 y m (by omega) hy hm128 ((m : Int) * 2097152) (by rfl)
        obtain ⟨z, hzz⟩ : ∃ z, y + m * 128 ^ 3 = z := ⟨_, rfl⟩
        rw [hzz] at hor hz
        have hzi : (z : Int) = (y : Int) + (m : Int) * 2097152 := by omega
        have hlt' : (at' : Int) + 3 < (xs.length : Int) := by omega
        have HM : Hid _ := hmm
        have hc128 : x % 128 = (m : Int) := by omega
        clear hx hdr HTk
        by_cases hge : 128 ≤ x
        · have HX : Hid (rd at' (5 - 4) 4 z (xs.drop (at' + 4)) = T) := by have := HTk'.out; rw [rd_cont hge, HM.out, hzz] at this; exact this
          have HZ : Hid _ := hzi
          clear hzz hmm hzi
          go_wp2
          exact ⟨⟨4, z, by simp [HZ.out], by go_num, by go_num, by omega, by omega, hz, HX.out⟩, by simp [intOf]⟩
        · have hx128 : x < 128 := by omega
          by_cases hbad : (x = 0 ∧ 0 < 3) ∨ 2147483647 < z
          · have HX : Hid ((0, 0, 20) = T) := by have := HTk'.out; rw [rd_bad hx128 (by rw [HM.out, hzz]; exact hbad)] at this; exact this
            have hTe : T1 = 0 ∧ T2 = 0 ∧ T3 = 20 := by
              have := HQ.out.trans HX.out.symm
              simpa using this
            obtain ⟨rfl, rfl, rfl⟩ := hTe
            have HZ : Hid _ := hzi
            clear hzz hmm hzi HTk'
            by_cases hx0 : x = 0
            · subst hx0
              go_wp2
              go_ret3
              exact ⟨rfl, rfl⟩
            · have hx0' : (x == 0) = false := by simpa using hx0
              have hz2 : (2147483647 : Int) < (z : Int) := by omega
              exfalso
              have hz' : z < 268435456 := hz
              omega
          · have HX : Hid (((z : Int), (at' : Int) + 3 + 1, 0) = T) := by have := HTk'.out; rw [rd_good hx128 (by rw [HM.out, hzz]; exact hbad), HM.out, hzz] at this; exact this
            have hTe : T1 = (z : Int) ∧ T2 = (at' : Int) + 3 + 1 ∧ T3 = 0 := by
              have := HQ.out.trans HX.out.symm
              simpa using this
            obtain ⟨rfl, rfl, rfl⟩ := hTe
            have HZ : Hid _ := hzi
            have hz2 : ¬ (2147483647 : Int) < ((y : Int) + (m : Int) * 2097152) := by omega
            have hx0 : (x == 0) = false := by simp; omega
            clear hzz hmm hzi HTk'
            go_wp2
            all_goals (go_ret3; exact ⟨by simp [HZ.out], rfl⟩)
      · have hE : at' + 3 = xs.length := by omega
        have HX : Hid ((0, 0, 21) = T) := by have := HTk.out; rw [show at' + 3 = xs.length from hE, List.drop_length] at this; exact this
        have hTe : T1 = 0 ∧ T2 = 0 ∧ T3 = 21 := by
          have := HQ.out.trans HX.out.symm
          simpa using this
        obtain ⟨rfl, rfl, rfl⟩ := hTe
        have hE' : (xs.length : Int) ≤ (at' : Int) + 3 := by omega
        clear HTk
        go_wp2
        go_ret3
        exact ⟨rfl, rfl⟩
    · rw [show (((128 ^ 4 : Nat)) : Int) = 268435456 from rfl]
      by_cases hlt : at' + 4 < xs.length
      · obtain ⟨x, hx⟩ : ∃ x, xs[at' + 4]? = some x := ⟨xs[at' + 4], List.getElem?_eq_getElem hlt⟩
        have hc := HS.out (at' + 4) x hx
        have hxb := Byt.at HY.out hx
        have hdr := drop_atI hx
        have hand := and127 hxb
        have HTk' : Hid (rd at' (0 + 1) 4 y (x :: xs.drop (at' + 5)) = T) := by have := HTk.out; rw [show xs.drop (at' + 4) = x :: xs.drop (at' + 5) from hdr] at this; exact this
        obtain ⟨m, hmm⟩ : ∃ m, x.toNat % 128 = m := ⟨_, rfl⟩
        have hm128 : m < 128 := by omega
        rw [hmm] at hand
        obtain ⟨hor, hz⟩ := or_shift 4 y m (by omega) hy hm128 ((m : Int) * 268435456) (by rfl)
        obtain ⟨z, hzz⟩ : ∃ z, y + m * 128 ^ 4 = z := ⟨_, rfl⟩
        rw [hzz] at hor hz
        have hzi : (z : Int) = (y : Int) + (m : Int) * 268435456 := by omega
        have hlt' : (at' : Int) + 4 < (xs.length : Int) := by omega
        have HM : Hid _ := hmm
        have hc128 : x % 128 = (m : Int) := by omega
        clear hx hdr HTk
        by_cases hge : 128 ≤ x
        · have HX : Hid (rd at' (5 - 5) 5 z (xs.drop (at' + 5)) = T) := by have := HTk'.out; rw [rd_cont hge, HM.out, hzz] at this; exact this
          have HZ : Hid _ := hzi
          clear hzz hmm hzi
          go_wp2
          exact ⟨⟨5, z, by simp [HZ.out], by go_num, by go_num, by omega, by omega, hz, HX.out⟩, by simp [intOf]⟩
        · have hx128 : x < 128 := by omega
          by_cases hbad : (x = 0 ∧ 0 < 4) ∨ 2147483647 < z
          · have HX : Hid ((0, 0, 20) = T) := by have := HTk'.out; rw [rd_bad hx128 (by rw [HM.out, hzz]; exact hbad)] at this; exact this
            have hTe : T1 = 0 ∧ T2 = 0 ∧ T3 = 20 := by
              have := HQ.out.trans HX.out.symm
              simpa using this
            obtain ⟨rfl, rfl, rfl⟩ := hTe
            have HZ : Hid _ := hzi
            clear hzz hmm hzi HTk'
            by_cases hx0 : x = 0
            · subst hx0
              go_wp2
              go_ret3
              exact ⟨rfl, rfl⟩
            · have hx0' : (x == 0) = false := by simpa using hx0
              have hz2 : (2147483647 : Int) < (y : Int) + (m : Int) * 268435456 := by have := HZ.out; omega
              go_wp2
              go_ret3
              exact ⟨rfl, rfl⟩
          · have HX : Hid (((z : Int), (at' : Int) + 4 + 1, 0) = T) := by have := HTk'.out; rw [rd_good hx128 (by rw [HM.out, hzz]; exact hbad), HM.out, hzz] at this; exact this
            have hTe : T1 = (z : Int) ∧ T2 = (at' : Int) + 4 + 1 ∧ T3 = 0 := by
              have := HQ.out.trans HX.out.symm
              simpa using this
            obtain ⟨rfl, rfl, rfl⟩ := hTe
            have HZ : Hid _ := hzi
            have hz2 : ¬ (2147483647 : Int) < ((y : Int) + (m : Int) * 268435456) := by omega
            have hx0 : (x == 0) = false := by simp; omega
            clear hzz hmm hzi HTk'
            go_wp2
            all_goals (go_ret3; exact ⟨by simp [HZ.out], rfl⟩)
      · have hE : at' + 4 = xs.length := by omega
        have HX : Hid ((0, 0, 21) = T) := by have := HTk.out; rw [show at' + 4 = xs.length from hE, List.drop_length] at this; exact this
        have hTe : T1 = 0 ∧ T2 = 0 ∧ T3 = 21 := by
          have := HQ.out.trans HX.out.symm
          simpa using this
        obtain ⟨rfl, rfl, rfl⟩ := hTe
        have hE' : (xs.length : Int) ≤ (at' : Int) + 4 := by omega
        clear HTk
        go_wp2
        go_ret3
        exact ⟨rfl, rfl⟩
    · have HX : Hid ((0, 0, 20) = T) := HTk.out
      have hTe : T1 = 0 ∧ T2 = 0 ∧ T3 = 20 := by
        have := HQ.out.trans HX.out.symm
        simpa using this
      obtain ⟨rfl, rfl, rfl⟩ := hTe
      clear HTk
      go_wp2
      go_ret3
      exact ⟨rfl, rfl⟩

theorem refRead_any (a : Option Addr) (c : Nat) (xs : List Int) (at' : Int) (w : World) (hx : Bys w a xs) (hb : Byt xs) (hm : xs.length ≤ 1000000) :
    Calls Tryz.prog 111 #[.slice a xs.length c, .int .i64 at'] w fun e w' => e = .returned (.tuple #[.int .i64 (rdAny at' xs).1, .int .i64 (rdAny at' xs).2.1, .int .i64 (rdAny at' xs).2.2]) ∧ w' = w := by
  by_cases hat : 0 ≤ at' ∧ at' ≤ xs.length
  · have e : rdAny at' xs = rd at' 5 0 0 (xs.drop at'.toNat) := by unfold rdAny; rw [if_pos hat]
    rw [e]
    obtain ⟨n, rfl⟩ := Int.eq_ofNat_of_zero_le hat.1
    rcases hx with rfl | ⟨b, o, rfl, h1, hs⟩
    · obtain rfl : n = 0 := by have := hat.2; simp at this; omega
      go_enter Tryz.func111, Tryz.ntmps111
      go_wp2
      refine wp_loop_rounds 1 ?_
      rw [rounds_succ]
      go_wp2
      go_ret3
      exact ⟨rfl, rfl⟩
    · exact refRead_some b o c xs n w (by omega) hs hb hm _ _ _ rfl
  · have e : rdAny at' xs = (0, 0, 1) := by unfold rdAny; rw [if_neg hat]
    rw [e]
    clear hx hb e
    by_cases h0 : at' < 0
    · go_enter Tryz.func111, Tryz.ntmps111
      go_wp2
      go_ret3
      exact ⟨rfl, rfl⟩
    · have h1 : (xs.length : Int) < at' := by omega
      clear hat
      go_enter Tryz.func111, Tryz.ntmps111
      go_wp2
      go_ret3
      exact ⟨rfl, rfl⟩
end Go.Proofs.YtdjfeomdiljaeaaGreatDoor
