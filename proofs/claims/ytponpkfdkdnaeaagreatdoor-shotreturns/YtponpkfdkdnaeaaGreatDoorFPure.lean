import Derived.Test.YtponpkfdkdnaeaaGreatDoorWMem
import Derived.Laws.BitsAllLaws
import Derived.Laws.BitsLemmas
import Derived.Laws.Bits128
import Derived.Laws.BytesArg
import Derived.Test.YtponpkfdkdnaeaaGreatDoorCCheck
import Derived.Test.YtponpkfdkdnaeaaGreatDoorSTurn
import Derived.WalkLawsBesides
namespace Go.Proofs.YtponpkfdkdnaeaaGreatDoor.W
open Go.RowKit

theorem wraps_i64 (n : Int) (h₀ : 0 ≤ n) (h₁ : n < 2 ^ 63) : IntKind.i64.wrap n = n := by rw [IntKind.wrap_i64]; omega
theorem i64_xor_nat (a b : Nat) (ha : a < 9223372036854775808) (hb : b < 9223372036854775808) : bits .xor .i64 (a : Int) (b : Int) = ((a ^^^ b : Nat) : Int) := by
  have ha' : a % 2 ^ IntKind.i64.bits = a := Nat.mod_eq_of_lt (by simp [IntKind.bits]; omega)
  have hb' : b % 2 ^ IntKind.i64.bits = b := Nat.mod_eq_of_lt (by simp [IntKind.bits]; omega)
  simp only [bits, BitVec.ofInt_natCast, BitVec.toNat_xor, BitVec.toNat_ofNat, ha', hb']
  have hx : a ^^^ b < 2 ^ 63 := Nat.xor_lt_two_pow (by omega) (by omega)
  exact wraps_i64 _ (Int.natCast_nonneg _) (by exact_mod_cast hx)
theorem i64_or_nat (a b : Nat) (ha : a < 9223372036854775808) (hb : b < 9223372036854775808) : bits .or .i64 (a : Int) (b : Int) = ((a ||| b : Nat) : Int) :=
  (bits_nat .i64 63 (by decide) wraps_i64 a b (by omega) (by omega)).2
/-- Parts that don't meet. -/
theorem or_add (i q b : Nat) (hb : b < 2 ^ i) : 2 ^ i * q ||| b = 2 ^ i * q + b := (Nat.two_pow_add_eq_or_of_lt hb q).symm
end Go.Proofs.YtponpkfdkdnaeaaGreatDoor.W
namespace Go.Proofs.YtponpkfdkdnaeaaGreatDoor.W
open Go.RowKit

/-- What ReadNumber answers. -/
def rdAny (at' : Int) (xs : List Int) : Int × Int × Int := if 0 ≤ at' ∧ at' ≤ xs.length then rd at' 5 0 0 (xs.drop at'.toNat) else (0, 0, 1)

theorem drop_atI {xs : List Int} {j : Nat} {x : Int} (h : xs[j]? = some x) : xs.drop j = x :: xs.drop (j + 1) := by
  have hl : j < xs.length := (List.getElem?_eq_some_iff.1 h).1
  rw [List.drop_eq_getElem_cons hl]
  rw [List.getElem?_eq_getElem hl] at h
  rw [Option.some.inj h]
theorem rd_cont {at' : Int} {n k y : Nat} {x : Int} {r : List Int} (h : 128 ≤ x) : rd at' (n + 1) k y (x :: r) = rd at' n (k + 1) (y + x.toNat % 128 * 128 ^ k) r := by
  rw [rd, if_neg (by omega)]
theorem rd_bad {at' : Int} {n k y : Nat} {x : Int} {r : List Int} (h : x < 128) (g : (x = 0 ∧ 0 < k) ∨ 2147483647 < y + x.toNat % 128 * 128 ^ k) : rd at' (n + 1) k y (x :: r) = (0, 0, 20) := by
  rw [rd, if_pos h, if_pos g]
theorem rd_good {at' : Int} {n k y : Nat} {x : Int} {r : List Int} (h : x < 128) (g : ¬ ((x = 0 ∧ 0 < k) ∨ 2147483647 < y + x.toNat % 128 * 128 ^ k)) : rd at' (n + 1) k y (x :: r) = (((y + x.toNat % 128 * 128 ^ k : Nat) : Int), at' + k + 1, 0) := by
  rw [rd, if_pos h, if_neg g]

theorem and127 {x : Int} (h : 0 ≤ x ∧ x < 256) : bits .and .u8 x 127 = ((x.toNat % 128 : Nat) : Int) := by
  have e := u8_and x 127 h.1 h.2 (by omega) (by omega)
  rw [e]
  have : ∀ n : Fin 256, n.val &&& 127 = n.val % 128 := by decide +kernel
  have := this ⟨x.toNat, by omega⟩
  simp only at this
  rw [show (127 : Int).toNat = 127 by rfl, this]
theorem or_shift (k y m : Nat) (hk : k ≤ 4) (hy : y < 128 ^ k) (hm : m < 128) (P : Int) (hP : P = (m : Int) * 128 ^ k) : bits .or .i64 (y : Int) P = ((y + m * 128 ^ k : Nat) : Int) ∧ y + m * 128 ^ k < 128 ^ (k + 1) := by
  subst hP
  have e7 : 128 ^ k = 2 ^ (7 * k) := by rw [show (128 : Nat) = 2 ^ 7 by rfl, ← Nat.pow_mul]
  have hle : 128 ^ k ≤ 268435456 := Nat.le_trans (Nat.pow_le_pow_right (by omega) hk) (by decide)
  have hmul : m * 128 ^ k ≤ 127 * 128 ^ k := Nat.mul_le_mul_right _ (by omega)
  have hor : y ||| m * 128 ^ k = y + m * 128 ^ k := by
    rw [Nat.or_comm, Nat.mul_comm, e7, or_add (7 * k) m y (by rw [← e7]; exact hy), Nat.add_comm]
  have h := i64_or_nat y (m * 128 ^ k) (by omega) (by omega)
  rw [hor] at h
  refine ⟨?_, ?_⟩
  · rw [← h]
    congr 1
  · rw [Nat.pow_succ]
    omega

set_option maxHeartbeats 3200000 in
set_option maxRecDepth 100000 in
theorem readNumber_some (b o c : Nat) (xs : List Int) (at' : Nat) (w : World) (hat : at' ≤ xs.length) (hs : ∀ (j : Nat) (z : Int), xs[j]? = some z → w.cell? ⟨b, o + j, none⟩ = some (.int .u8 z)) (hb : Byt xs) (hm : xs.length ≤ 1000000) (T1 T2 T3 : Int) (hT : rd at' 5 0 0 (xs.drop at') = (T1, T2, T3)) :
    Calls Tryz.prog 74 #[.slice (some ⟨b, o, none⟩) xs.length c, .int .i64 at'] w fun e w' => e = .returned (.tuple #[.int .i64 T1, .int .i64 T2, .int .i64 T3]) ∧ w' = w := by
  have HS : Hid _ := hs
  have HY : Hid (Byt xs) := hb
  obtain ⟨T, hTT⟩ : ∃ T, (T1, T2, T3) = T := ⟨_, rfl⟩
  rw [hTT] at hT
  have HT : Hid _ := hT
  have HQ : Hid _ := hTT
  have h0 : ¬ (at' : Int) < 0 := by omega
  have h1 : ¬ (xs.length : Int) < (at' : Int) := by omega
  clear hs hb hT hTT
  go_enter Tryz.func74, Tryz.ntmps74
  go_wp2
  clear h0 h1
  go_loop [7, 18] (fun v i => ∃ k y : Nat, v = .int .i64 y ∧ i = .int .i64 k ∧ k ≤ 5 ∧ at' + k ≤ xs.length ∧ y < 128 ^ k ∧ Hid (rd at' (5 - k) k y (xs.drop (at' + k)) = T)) (fun _ i => 5 - (intOf i).toNat)
  case atStart => exact ⟨0, 0, rfl, rfl, by omega, by omega, by omega, HT.out⟩
  case round =>
    obtain ⟨k, y, rfl, rfl, hk, hak, hy, HTk⟩ := hrel
    rcases (show k = 0 ∨ k = 1 ∨ k = 2 ∨ k = 3 ∨ k = 4 ∨ k = 5 by omega) with rfl | rfl | rfl | rfl | rfl | rfl
    · skip
      by_cases hlt : at' < xs.length
      · obtain ⟨x, hx⟩ : ∃ x, xs[at']? = some x := ⟨xs[at'], List.getElem?_eq_getElem hlt⟩
        have hc := HS.out (at') x hx
        have hxb := Byt.at HY.out hx
        have hdr := drop_atI hx
        have hand := and127 hxb
        have HTk' : Hid (rd at' (4 + 1) 0 y (x :: xs.drop (at' + 1)) = T) := by have := HTk.out; rw [show xs.drop (at' + 0) = x :: xs.drop (at' + 1) from hdr] at this; exact this
        obtain ⟨m, hmm⟩ : ∃ m, x.toNat % 128 = m := ⟨_, rfl⟩
        have hm128 : m < 128 := by omega
        rw [hmm] at hand
        obtain ⟨hor, hz⟩ := or_shift 0 y m (by omega) hy hm128 ((m : Int)) (by simp)
        obtain ⟨z, hzz⟩ : ∃ z, y + m * 128 ^ 0 = z := ⟨_, rfl⟩
        rw [hzz] at hor hz
        have hzi : (z : Int) = (y : Int) + (m : Int) * 1 := by omega
        have hlt' : (at' : Int) < (xs.length : Int) := by omega
        have HM : Hid _ := hmm
        skip
        clear hx hdr HTk
        by_cases hge : 128 ≤ x
        · have HX : Hid (rd at' (5 - 1) 1 z (xs.drop (at' + 1)) = T) := by have := HTk'.out; rw [rd_cont hge, HM.out, hzz] at this; exact this
          skip
          clear hzz hmm hzi
          go_wp2
          exact ⟨⟨1, z, rfl, by go_num, by omega, by omega, hz, HX.out⟩, by simp [intOf]⟩
        · have hx128 : x < 128 := by omega
          by_cases hbad : (x = 0 ∧ 0 < 0) ∨ 2147483647 < z
          · have HX : Hid ((0, 0, 20) = T) := by have := HTk'.out; rw [rd_bad hx128 (by rw [HM.out, hzz]; exact hbad)] at this; exact this
            have hTe : T1 = 0 ∧ T2 = 0 ∧ T3 = 20 := by
              have := HQ.out.trans HX.out.symm
              simpa using this
            obtain ⟨rfl, rfl, rfl⟩ := hTe
            skip
            clear hzz hmm hzi HTk'
            exfalso
            have hz' : z < 128 := hz
            omega
          · have HX : Hid (((z : Int), (at' : Int) + 0 + 1, 0) = T) := by have := HTk'.out; rw [rd_good hx128 (by rw [HM.out, hzz]; exact hbad), HM.out, hzz] at this; exact this
            have hTe : T1 = (z : Int) ∧ T2 = (at' : Int) + 0 + 1 ∧ T3 = 0 := by
              have := HQ.out.trans HX.out.symm
              simpa using this
            obtain ⟨rfl, rfl, rfl⟩ := hTe
            skip
            have hz2 : ¬ (2147483647 : Int) < (z : Int) := by omega
            skip
            clear hzz hmm hzi HTk'
            go_wp2
            all_goals (go_ret3; exact ⟨by simp, rfl⟩)
      · have hE : at' = xs.length := by omega
        have HX : Hid ((0, 0, 21) = T) := by have := HTk.out; rw [show at' + 0 = xs.length from hE, List.drop_length] at this; exact this
        have hTe : T1 = 0 ∧ T2 = 0 ∧ T3 = 21 := by
          have := HQ.out.trans HX.out.symm
          simpa using this
        obtain ⟨rfl, rfl, rfl⟩ := hTe
        have hE' : ((at' : Int) == (xs.length : Int)) = true := by simp; omega
        clear HTk
        go_wp2
        go_ret3
        exact ⟨rfl, rfl⟩
    · skip
      by_cases hlt : at' + 1 < xs.length
      · obtain ⟨x, hx⟩ : ∃ x, xs[at' + 1]? = some x := ⟨xs[at' + 1], List.getElem?_eq_getElem hlt⟩
        have hc := HS.out (at' + 1) x hx
        have hxb := Byt.at HY.out hx
        have hdr := drop_atI hx
        have hand := and127 hxb
        have HTk' : Hid (rd at' (3 + 1) 1 y (x :: xs.drop (at' + 2)) = T) := by have := HTk.out; rw [show xs.drop (at' + 1) = x :: xs.drop (at' + 2) from hdr] at this; exact this
        obtain ⟨m, hmm⟩ : ∃ m, x.toNat % 128 = m := ⟨_, rfl⟩
        have hm128 : m < 128 := by omega
        rw [hmm] at hand
        obtain ⟨hor, hz⟩ := or_shift 1 y m (by omega) hy hm128 ((m : Int) * 128) (by rfl)
        obtain ⟨z, hzz⟩ : ∃ z, y + m * 128 ^ 1 = z := ⟨_, rfl⟩
        rw [hzz] at hor hz
        have hzi : (z : Int) = (y : Int) + (m : Int) * 128 := by omega
        have hlt' : (at' : Int) + 1 < (xs.length : Int) := by omega
        have HM : Hid _ := hmm
        skip
        clear hx hdr HTk
        by_cases hge : 128 ≤ x
        · have HX : Hid (rd at' (5 - 2) 2 z (xs.drop (at' + 2)) = T) := by have := HTk'.out; rw [rd_cont hge, HM.out, hzz] at this; exact this
          skip
          clear hzz hmm hzi
          go_wp2
          exact ⟨⟨2, z, rfl, by go_num, by omega, by omega, hz, HX.out⟩, by simp [intOf]⟩
        · have hx128 : x < 128 := by omega
          by_cases hbad : (x = 0 ∧ 0 < 1) ∨ 2147483647 < z
          · have HX : Hid ((0, 0, 20) = T) := by have := HTk'.out; rw [rd_bad hx128 (by rw [HM.out, hzz]; exact hbad)] at this; exact this
            have hTe : T1 = 0 ∧ T2 = 0 ∧ T3 = 20 := by
              have := HQ.out.trans HX.out.symm
              simpa using this
            obtain ⟨rfl, rfl, rfl⟩ := hTe
            skip
            clear hzz hmm hzi HTk'
            by_cases hx0 : x = 0
            · subst hx0
              go_wp2
              go_ret3
              exact ⟨rfl, rfl⟩
            · have hx0' : (x == 0) = false := by simpa using hx0
              have hz2 : (2147483647 : Int) < (z : Int) := by omega
              exfalso
              have hz' : z < 16384 := hz
              omega
          · have HX : Hid (((z : Int), (at' : Int) + 1 + 1, 0) = T) := by have := HTk'.out; rw [rd_good hx128 (by rw [HM.out, hzz]; exact hbad), HM.out, hzz] at this; exact this
            have hTe : T1 = (z : Int) ∧ T2 = (at' : Int) + 1 + 1 ∧ T3 = 0 := by
              have := HQ.out.trans HX.out.symm
              simpa using this
            obtain ⟨rfl, rfl, rfl⟩ := hTe
            skip
            have hz2 : ¬ (2147483647 : Int) < (z : Int) := by omega
            have hx0 : (x == 0) = false := by simp; omega
            clear hzz hmm hzi HTk'
            go_wp2
            all_goals (go_ret3; exact ⟨by simp, rfl⟩)
      · have hE : at' + 1 = xs.length := by omega
        have HX : Hid ((0, 0, 21) = T) := by have := HTk.out; rw [show at' + 1 = xs.length from hE, List.drop_length] at this; exact this
        have hTe : T1 = 0 ∧ T2 = 0 ∧ T3 = 21 := by
          have := HQ.out.trans HX.out.symm
          simpa using this
        obtain ⟨rfl, rfl, rfl⟩ := hTe
        have hE' : ((at' : Int) + 1 == (xs.length : Int)) = true := by simp; omega
        clear HTk
        go_wp2
        go_ret3
        exact ⟨rfl, rfl⟩
    · skip
      by_cases hlt : at' + 2 < xs.length
      · obtain ⟨x, hx⟩ : ∃ x, xs[at' + 2]? = some x := ⟨xs[at' + 2], List.getElem?_eq_getElem hlt⟩
        have hc := HS.out (at' + 2) x hx
        have hxb := Byt.at HY.out hx
        have hdr := drop_atI hx
        have hand := and127 hxb
        have HTk' : Hid (rd at' (2 + 1) 2 y (x :: xs.drop (at' + 3)) = T) := by have := HTk.out; rw [show xs.drop (at' + 2) = x :: xs.drop (at' + 3) from hdr] at this; exact this
        obtain ⟨m, hmm⟩ : ∃ m, x.toNat % 128 = m := ⟨_, rfl⟩
        have hm128 : m < 128 := by omega
        rw [hmm] at hand
        obtain ⟨hor, hz⟩ := or_shift 2 y m (by omega) hy hm128 ((m : Int) * 16384) (by rfl)
        obtain ⟨z, hzz⟩ : ∃ z, y + m * 128 ^ 2 = z := ⟨_, rfl⟩
        rw [hzz] at hor hz
        have hzi : (z : Int) = (y : Int) + (m : Int) * 16384 := by omega
        have hlt' : (at' : Int) + 2 < (xs.length : Int) := by omega
        have HM : Hid _ := hmm
        skip
        clear hx hdr HTk
        by_cases hge : 128 ≤ x
        · have HX : Hid (rd at' (5 - 3) 3 z (xs.drop (at' + 3)) = T) := by have := HTk'.out; rw [rd_cont hge, HM.out, hzz] at this; exact this
          skip
          clear hzz hmm hzi
          go_wp2
          exact ⟨⟨3, z, rfl, by go_num, by omega, by omega, hz, HX.out⟩, by simp [intOf]⟩
        · have hx128 : x < 128 := by omega
          by_cases hbad : (x = 0 ∧ 0 < 2) ∨ 2147483647 < z
          · have HX : Hid ((0, 0, 20) = T) := by have := HTk'.out; rw [rd_bad hx128 (by rw [HM.out, hzz]; exact hbad)] at this; exact this
            have hTe : T1 = 0 ∧ T2 = 0 ∧ T3 = 20 := by
              have := HQ.out.trans HX.out.symm
              simpa using this
            obtain ⟨rfl, rfl, rfl⟩ := hTe
            skip
            clear hzz hmm hzi HTk'
            by_cases hx0 : x = 0
            · subst hx0
              go_wp2
              go_ret3
              exact ⟨rfl, rfl⟩
            · have hx0' : (x == 0) = false := by simpa using hx0
              have hz2 : (2147483647 : Int) < (z : Int) := by omega
              exfalso
              have hz' : z < 2097152 := hz
              omega
          · have HX : Hid (((z : Int), (at' : Int) + 2 + 1, 0) = T) := by have := HTk'.out; rw [rd_good hx128 (by rw [HM.out, hzz]; exact hbad), HM.out, hzz] at this; exact this
            have hTe : T1 = (z : Int) ∧ T2 = (at' : Int) + 2 + 1 ∧ T3 = 0 := by
              have := HQ.out.trans HX.out.symm
              simpa using this
            obtain ⟨rfl, rfl, rfl⟩ := hTe
            skip
            have hz2 : ¬ (2147483647 : Int) < (z : Int) := by omega
            have hx0 : (x == 0) = false := by simp; omega
            clear hzz hmm hzi HTk'
            go_wp2
            all_goals (go_ret3; exact ⟨by simp, rfl⟩)
      · have hE : at' + 2 = xs.length := by omega
        have HX : Hid ((0, 0, 21) = T) := by have := HTk.out; rw [show at' + 2 = xs.length from hE, List.drop_length] at this; exact this
        have hTe : T1 = 0 ∧ T2 = 0 ∧ T3 = 21 := by
          have := HQ.out.trans HX.out.symm
          simpa using this
        obtain ⟨rfl, rfl, rfl⟩ := hTe
        have hE' : ((at' : Int) + 2 == (xs.length : Int)) = true := by simp; omega
        clear HTk
        go_wp2
        go_ret3
        exact ⟨rfl, rfl⟩
    · skip
      by_cases hlt : at' + 3 < xs.length
      · obtain ⟨x, hx⟩ : ∃ x, xs[at' + 3]? = some x := ⟨xs[at' + 3], List.getElem?_eq_getElem hlt⟩
        have hc := HS.out (at' + 3) x hx
        have hxb := Byt.at HY.out hx
        have hdr := drop_atI hx
        have hand := and127 hxb
        have HTk' : Hid (rd at' (1 + 1) 3 y (x :: xs.drop (at' + 4)) = T) := by have := HTk.out; rw [show xs.drop (at' + 3) = x :: xs.drop (at' + 4) from hdr] at this; exact this
        obtain ⟨m, hmm⟩ : ∃ m, x.toNat % 128 = m := ⟨_, rfl⟩
        have hm128 : m < 128 := by omega
        rw [hmm] at hand
        obtain ⟨hor, hz⟩ := or_shift 3 y m (by omega) hy hm128 ((m : Int) * 2097152) (by rfl)
        obtain ⟨z, hzz⟩ : ∃ z, y + m * 128 ^ 3 = z := ⟨_, rfl⟩
        rw [hzz] at hor hz
        have hzi : (z : Int) = (y : Int) + (m : Int) * 2097152 := by omega
        have hlt' : (at' : Int) + 3 < (xs.length : Int) := by omega
        have HM : Hid _ := hmm
        skip
        clear hx hdr HTk
        by_cases hge : 128 ≤ x
        · have HX : Hid (rd at' (5 - 4) 4 z (xs.drop (at' + 4)) = T) := by have := HTk'.out; rw [rd_cont hge, HM.out, hzz] at this; exact this
          skip
          clear hzz hmm hzi
          go_wp2
          exact ⟨⟨4, z, rfl, by go_num, by omega, by omega, hz, HX.out⟩, by simp [intOf]⟩
        · have hx128 : x < 128 := by omega
          by_cases hbad : (x = 0 ∧ 0 < 3) ∨ 2147483647 < z
          · have HX : Hid ((0, 0, 20) = T) := by have := HTk'.out; rw [rd_bad hx128 (by rw [HM.out, hzz]; exact hbad)] at this; exact this
            have hTe : T1 = 0 ∧ T2 = 0 ∧ T3 = 20 := by
              have := HQ.out.trans HX.out.symm
              simpa using this
            obtain ⟨rfl, rfl, rfl⟩ := hTe
            skip
            clear hzz hmm hzi HTk'
            by_cases hx0 : x = 0
            · subst hx0
              go_wp2
              go_ret3
              exact ⟨rfl, rfl⟩
            · have hx0' : (x == 0) = false := by simpa using hx0
              have hz2 : (2147483647 : Int) < (z : Int) := by omega
              exfalso
              have hz' : z < 268435456 := hz
              omega
          · have HX : Hid (((z : Int), (at' : Int) + 3 + 1, 0) = T) := by have := HTk'.out; rw [rd_good hx128 (by rw [HM.out, hzz]; exact hbad), HM.out, hzz] at this; exact this
            have hTe : T1 = (z : Int) ∧ T2 = (at' : Int) + 3 + 1 ∧ T3 = 0 := by
              have := HQ.out.trans HX.out.symm
              simpa using this
            obtain ⟨rfl, rfl, rfl⟩ := hTe
            skip
            have hz2 : ¬ (2147483647 : Int) < (z : Int) := by omega
            have hx0 : (x == 0) = false := by simp; omega
            clear hzz hmm hzi HTk'
            go_wp2
            all_goals (go_ret3; exact ⟨by simp, rfl⟩)
      · have hE : at' + 3 = xs.length := by omega
        have HX : Hid ((0, 0, 21) = T) := by have := HTk.out; rw [show at' + 3 = xs.length from hE, List.drop_length] at this; exact this
        have hTe : T1 = 0 ∧ T2 = 0 ∧ T3 = 21 := by
          have := HQ.out.trans HX.out.symm
          simpa using this
        obtain ⟨rfl, rfl, rfl⟩ := hTe
        have hE' : ((at' : Int) + 3 == (xs.length : Int)) = true := by simp; omega
        clear HTk
        go_wp2
        go_ret3
        exact ⟨rfl, rfl⟩
    · skip
      by_cases hlt : at' + 4 < xs.length
      · obtain ⟨x, hx⟩ : ∃ x, xs[at' + 4]? = some x := ⟨xs[at' + 4], List.getElem?_eq_getElem hlt⟩
        have hc := HS.out (at' + 4) x hx
        have hxb := Byt.at HY.out hx
        have hdr := drop_atI hx
        have hand := and127 hxb
        have HTk' : Hid (rd at' (0 + 1) 4 y (x :: xs.drop (at' + 5)) = T) := by have := HTk.out; rw [show xs.drop (at' + 4) = x :: xs.drop (at' + 5) from hdr] at this; exact this
        obtain ⟨m, hmm⟩ : ∃ m, x.toNat % 128 = m := ⟨_, rfl⟩
        have hm128 : m < 128 := by omega
        rw [hmm] at hand
        obtain ⟨hor, hz⟩ := or_shift 4 y m (by omega) hy hm128 ((m : Int) * 268435456) (by rfl)
        obtain ⟨z, hzz⟩ : ∃ z, y + m * 128 ^ 4 = z := ⟨_, rfl⟩
        rw [hzz] at hor hz
        have hzi : (z : Int) = (y : Int) + (m : Int) * 268435456 := by omega
        have hlt' : (at' : Int) + 4 < (xs.length : Int) := by omega
        have HM : Hid _ := hmm
        skip
        clear hx hdr HTk
        by_cases hge : 128 ≤ x
        · have HX : Hid (rd at' (5 - 5) 5 z (xs.drop (at' + 5)) = T) := by have := HTk'.out; rw [rd_cont hge, HM.out, hzz] at this; exact this
          skip
          clear hzz hmm hzi
          go_wp2
          exact ⟨⟨5, z, rfl, by go_num, by omega, by omega, hz, HX.out⟩, by simp [intOf]⟩
        · have hx128 : x < 128 := by omega
          by_cases hbad : (x = 0 ∧ 0 < 4) ∨ 2147483647 < z
          · have HX : Hid ((0, 0, 20) = T) := by have := HTk'.out; rw [rd_bad hx128 (by rw [HM.out, hzz]; exact hbad)] at this; exact this
            have hTe : T1 = 0 ∧ T2 = 0 ∧ T3 = 20 := by
              have := HQ.out.trans HX.out.symm
              simpa using this
            obtain ⟨rfl, rfl, rfl⟩ := hTe
            skip
            clear hzz hmm hzi HTk'
            by_cases hx0 : x = 0
            · subst hx0
              go_wp2
              go_ret3
              exact ⟨rfl, rfl⟩
            · have hx0' : (x == 0) = false := by simpa using hx0
              have hz2 : (2147483647 : Int) < (z : Int) := by omega
              go_wp2
              go_ret3
              exact ⟨rfl, rfl⟩
          · have HX : Hid (((z : Int), (at' : Int) + 4 + 1, 0) = T) := by have := HTk'.out; rw [rd_good hx128 (by rw [HM.out, hzz]; exact hbad), HM.out, hzz] at this; exact this
            have hTe : T1 = (z : Int) ∧ T2 = (at' : Int) + 4 + 1 ∧ T3 = 0 := by
              have := HQ.out.trans HX.out.symm
              simpa using this
            obtain ⟨rfl, rfl, rfl⟩ := hTe
            skip
            have hz2 : ¬ (2147483647 : Int) < (z : Int) := by omega
            have hx0 : (x == 0) = false := by simp; omega
            clear hzz hmm hzi HTk'
            go_wp2
            all_goals (go_ret3; exact ⟨by simp, rfl⟩)
      · have hE : at' + 4 = xs.length := by omega
        have HX : Hid ((0, 0, 21) = T) := by have := HTk.out; rw [show at' + 4 = xs.length from hE, List.drop_length] at this; exact this
        have hTe : T1 = 0 ∧ T2 = 0 ∧ T3 = 21 := by
          have := HQ.out.trans HX.out.symm
          simpa using this
        obtain ⟨rfl, rfl, rfl⟩ := hTe
        have hE' : ((at' : Int) + 4 == (xs.length : Int)) = true := by simp; omega
        clear HTk
        go_wp2
        go_ret3
        exact ⟨rfl, rfl⟩
    · have HX : Hid ((0, 0, 20) = T) := HTk.out
      have hTe : T1 = 0 ∧ T2 = 0 ∧ T3 = 20 := by
        have := HQ.out.trans HX.out.symm
        simpa using this
      obtain ⟨rfl, rfl, rfl⟩ := hTe
      clear HTk
      go_wp2
      go_ret3
      exact ⟨rfl, rfl⟩

theorem readNumber_any (a : Option Addr) (c : Nat) (xs : List Int) (at' : Int) (w : World) (hx : Bys w a xs) (hb : Byt xs) (hm : xs.length ≤ 1000000) :
    Calls Tryz.prog 74 #[.slice a xs.length c, .int .i64 at'] w fun e w' => e = .returned (.tuple #[.int .i64 (rdAny at' xs).1, .int .i64 (rdAny at' xs).2.1, .int .i64 (rdAny at' xs).2.2]) ∧ w' = w := by
  by_cases hat : 0 ≤ at' ∧ at' ≤ xs.length
  · have e : rdAny at' xs = rd at' 5 0 0 (xs.drop at'.toNat) := by unfold rdAny; rw [if_pos hat]
    rw [e]
    obtain ⟨n, rfl⟩ := Int.eq_ofNat_of_zero_le hat.1
    rcases hx with rfl | ⟨b, o, rfl, h1, hs⟩
    · obtain rfl : n = 0 := by have := hat.2; simp at this; omega
      go_enter Tryz.func74, Tryz.ntmps74
      go_wp2
      refine wp_loop_rounds 1 ?_
      rw [rounds_succ]
      go_wp2
      go_ret3
      exact ⟨rfl, rfl⟩
    · exact readNumber_some b o c xs n w (by omega) hs hb hm _ _ _ rfl
  · have e : rdAny at' xs = (0, 0, 1) := by unfold rdAny; rw [if_neg hat]
    rw [e]
    clear hx hb e
    by_cases h0 : at' < 0
    · go_enter Tryz.func74, Tryz.ntmps74
      go_wp2
      go_ret3
      exact ⟨rfl, rfl⟩
    · have h1 : (xs.length : Int) < at' := by omega
      clear hat
      go_enter Tryz.func74, Tryz.ntmps74
      go_wp2
      go_ret3
      exact ⟨rfl, rfl⟩
end Go.Proofs.YtponpkfdkdnaeaaGreatDoor.W
namespace Go.Proofs.YtponpkfdkdnaeaaGreatDoor.W
open Go.RowKit

/-- What ReadText answers. -/
def rtAny (at' : Int) (xs : List Int) : ByteArray × Int × Int :=
  if (rdAny at' xs).2.2 ≠ 0 then (ByteArray.empty, 0, (rdAny at' xs).2.2) else
  if 262144 < (rdAny at' xs).1 then (ByteArray.empty, 0, 2) else
  if xs.length - (rdAny at' xs).2.1 < (rdAny at' xs).1 then (ByteArray.empty, 0, 21) else
  (strOfNums ((xs.drop (rdAny at' xs).2.1.toNat).take (rdAny at' xs).1.toNat), (rdAny at' xs).2.1 + (rdAny at' xs).1, 0)

theorem rdAny_ok {at' : Int} {xs : List Int} {n b : Int} (hb : Byt xs) (h : rdAny at' xs = (n, b, 0)) : 0 ≤ at' ∧ 0 ≤ n ∧ n ≤ 2147483647 ∧ at' < b ∧ b ≤ xs.length ∧ xs.drop at'.toNat = numL n.toNat ++ xs.drop b.toNat ∧ b = at' + (numL n.toNat).length := by
  unfold rdAny at h
  split at h
  · rename_i hat
    obtain ⟨y, l', e1, e2, e3, e4, e5⟩ := rd_only at' 5 0 0 _ n b (hb.drop _) h
    simp only [Nat.pow_zero, Nat.mul_one, Nat.zero_add] at e1 e5
    have hl : (xs.drop at'.toNat).length = (numL y).length + l'.length := by rw [e2, List.length_append]
    rw [List.length_drop] at hl
    have h1 := (numL_len (v := y) 5 (by omega) (by omega)).2
    have ey : n.toNat = y := by omega
    rw [ey]
    have eb : b.toNat = at'.toNat + (numL y).length := by omega
    refine ⟨hat.1, by omega, by omega, by omega, by omega, ?_, by omega⟩
    rw [e2, eb, ← List.drop_drop, e2, List.drop_left]
  · simp at h

theorem bytes_conv {w : World} {b o : Nat} {xs : List Int} {B N c : Nat} (hs : ∀ (j : Nat) (z : Int), xs[j]? = some z → w.cell? ⟨b, o + j, none⟩ = some (.int .u8 z)) (h : B + N ≤ xs.length) :
    (convert 25 9 (.slice (some ⟨b, o + B, none⟩) N c)).run Tryz.prog w = .ok (.string (strOfNums ((xs.drop B).take N))) w := by
  refine run_convert_bytes_arg _ 25 5 Tryz.underlying25 Tryz.underlying5 b (o + B) N c ((xs.drop B).take N) (by rw [List.length_take, List.length_drop]; omega) (fun i hi => ?_) 9 Tryz.underlying9
  have hx : xs[B + i]? = some (xs[B + i]'(by omega)) := List.getElem?_eq_getElem (by omega)
  rw [Nat.add_assoc, hs (B + i) _ hx, List.getD_eq_getElem?_getD, List.getElem?_take, if_pos hi, List.getElem?_drop, hx]
  rfl

set_option maxHeartbeats 3200000 in
set_option maxRecDepth 100000 in
theorem readText_any (a : Option Addr) (c : Nat) (xs : List Int) (at' : Int) (w : World) (hx : Bys w a xs) (hb : Byt xs) (hm : xs.length ≤ 1000000) (hc : xs.length ≤ c) (hcm : c ≤ maxLen) :
    Calls Tryz.prog 75 #[.slice a xs.length c, .int .i64 at'] w fun e w' => e = .returned (.tuple #[.string (rtAny at' xs).1, .int .i64 (rtAny at' xs).2.1, .int .i64 (rtAny at' xs).2.2]) ∧ w' = w := by
  unfold maxLen at hcm
  have HR : Hid _ := readNumber_any a c xs at' w hx hb hm
  obtain ⟨n, b, e, he⟩ : ∃ n b e, rdAny at' xs = (n, b, e) := ⟨_, _, _, rfl⟩
  have HT : Hid (rtAny at' xs = if e ≠ 0 then (ByteArray.empty, 0, e) else if 262144 < n then (ByteArray.empty, 0, 2) else if xs.length - b < n then (ByteArray.empty, 0, 21) else (strOfNums ((xs.drop b.toNat).take n.toNat), b + n, 0)) := by
    show rtAny at' xs = _
    unfold rtAny
    rw [he]
  rw [he] at HR
  by_cases h0 : e = 0
  · subst h0
    have hok := rdAny_ok hb he
    obtain ⟨N, rfl⟩ := Int.eq_ofNat_of_zero_le hok.2.1
    obtain ⟨B, rfl⟩ := Int.eq_ofNat_of_zero_le (show 0 ≤ b by omega)
    simp only [ne_eq, not_true_eq_false, if_false, Int.toNat_natCast] at HT
    have hB : (B : Int) ≤ (xs.length : Int) := hok.2.2.2.2.1
    have hN : N ≤ 2147483647 := by omega
    have hat1 : 0 ≤ at' ∧ at' < (B : Int) := ⟨hok.1, hok.2.2.2.1⟩
    rcases hx with rfl | ⟨bb, o, rfl, h1, hs⟩
    · simp at hB; omega
    · have HS : Hid _ := hs
      clear hok he hs hb h1
      by_cases h2 : 262144 < N
      · have h2' : (262144 : Int) < (N : Int) := by omega
        have HX : Hid (rtAny at' xs = (ByteArray.empty, 0, 2)) := by have := HT.out; rw [if_pos h2'] at this; exact this
        rw [HX.out]
        clear HT HX
        go_enter Tryz.func75, Tryz.ntmps75
        go_wp2_with (first | (go_at_call 74; refine Calls.mono HR.out ?_; rintro e w1 ⟨rfl, rfl⟩) | fail)
        go_ret3
        exact ⟨rfl, rfl⟩
      · have h2' : ¬ (262144 : Int) < (N : Int) := by omega
        by_cases h3 : xs.length < B + N
        · have h3' : (xs.length : Int) - (B : Int) < (N : Int) := by omega
          have HX : Hid (rtAny at' xs = (ByteArray.empty, 0, 21)) := by have := HT.out; rw [if_neg h2', if_pos h3'] at this; exact this
          rw [HX.out]
          clear HT HX
          go_enter Tryz.func75, Tryz.ntmps75
          go_wp2_with (first | (go_at_call 74; refine Calls.mono HR.out ?_; rintro e w1 ⟨rfl, rfl⟩) | fail)
          go_ret3
          exact ⟨rfl, rfl⟩
        · have h3' : ¬ (xs.length : Int) - (B : Int) < (N : Int) := by omega
          have HX : Hid (rtAny at' xs = (strOfNums ((xs.drop B).take N), (B : Int) + (N : Int), 0)) := by have := HT.out; rw [if_neg h2', if_neg h3'] at this; exact this
          rw [HX.out]
          by_cases hBc : B < c
          · have hconv := bytes_conv (B := B) (N := N) (c := c - B) HS.out (by omega)
            generalize strOfNums ((xs.drop B).take N) = S at hconv ⊢
            have hle1 : (B : Int) + (N : Int) ≤ (c : Int) := by omega
            have hle2 : (B : Int) ≤ (B : Int) + (N : Int) := by omega
            have hne : ¬ (c : Int) - (B : Int) = 0 := by omega
            have hne' : ¬ c - B = 0 := by omega
            clear HT HX
            go_enter Tryz.func75, Tryz.ntmps75
            go_wp2_with (first | (go_at_call 74; refine Calls.mono HR.out ?_; rintro e w1 ⟨rfl, rfl⟩) | fail)
            go_ret3
            exact ⟨rfl, rfl⟩
          · obtain rfl : B = c := by omega
            obtain rfl : N = 0 := by omega
            have hconv := bytes_conv (B := 0) (N := 0) (c := 0) HS.out (by omega)
            rw [List.take_zero] at hconv
            rw [List.take_zero]
            rw [Nat.add_zero] at hconv
            generalize strOfNums [] = S at hconv ⊢
            clear HT HX
            go_enter Tryz.func75, Tryz.ntmps75
            go_wp2_with (first | (go_at_call 74; refine Calls.mono HR.out ?_; rintro e w1 ⟨rfl, rfl⟩) | fail)
            go_ret3
            exact ⟨by simp, rfl⟩
  · have hne : (e != 0) = true := by simpa using h0
    have HX : Hid (rtAny at' xs = (ByteArray.empty, 0, e)) := by have := HT.out; rw [if_pos h0] at this; exact this
    rw [HX.out]
    clear HT HX he hx hb
    go_enter Tryz.func75, Tryz.ntmps75
    go_wp2_with (first | (go_at_call 74; refine Calls.mono HR.out ?_; rintro e w1 ⟨rfl, rfl⟩) | fail)
    go_ret3
    exact ⟨rfl, rfl⟩
end Go.Proofs.YtponpkfdkdnaeaaGreatDoor.W
namespace Go.Proofs.YtponpkfdkdnaeaaGreatDoor.W
open Go.RowKit
set_option linter.unusedVariables false
set_option linter.unusedSimpArgs false

abbrev PN : List PanicEntry := [{ v := .iface 102 (.agg #[]), recovered := false }]
theorem must_true (w : World) : Calls Tryz.prog 23 #[.bool true] w fun e w' => e = .returned (.tuple #[]) ∧ w' = w := by
  go_enter Tryz.func23, Tryz.ntmps23
  go_wp2_with fail
  exact bodyPost_end (results_none rfl _ _ _) rfl ⟨rfl, rfl⟩
theorem must_false (w : World) : Calls Tryz.prog 23 #[.bool false] w fun e w' => e = .panicked PN ∧ w' = w := by
  go_enter Tryz.func23, Tryz.ntmps23
  go_wp2_with fail
  exact ⟨rfl, rfl, rfl⟩
/-- A reader that stands there. -/
abbrev RdAt (w : World) (br : Nat) (a : Option Addr) (n c : Nat) (at' : Int) : Prop := w.heap[br]? = some (.cells #[.slice a n c, .int .i64 at'] 64 (0, 0))
theorem cells_2 {W : World} {b : Nat} {t : TypeId} {x0 x1 : Value} (h : W.heap[b]? = some (.cells #[x0, x1] t (0, 0))) : W.cell? ⟨b, 0, none⟩ = some x0 ∧ W.cell? ⟨b, 1, none⟩ = some x1 := by
  simp [World.cell?, h]
theorem free_2 {W : World} {b : Nat} {t : TypeId} {x0 x1 : Value} (h : W.heap[b]? = some (.cells #[x0, x1] t (0, 0))) (o : Nat) : W.frozen? ⟨b, o, none⟩ = false := by
  simp [World.frozen?, h]
theorem _root_.Go.Proofs.YtponpkfdkdnaeaaGreatDoor.Chg.drew {w w' : World} {S : Nat → Prop} (h : Chg w w' S) : Chg w w'.drew S := ⟨h.os, h.tape, h.output, h.size, h.block⟩
set_option maxHeartbeats 1600000 in
theorem rNumber_ok (br : Nat) (a : Option Addr) (c : Nat) (xs : List Int) (at' v nx : Int) (w : World) (h : RdAt w br a xs.length c at') (hx : Bys w a xs) (hb : Byt xs) (hm : xs.length ≤ 1000000) (hr : rdAny at' xs = (v, nx, 0)) :
    Calls Tryz.prog 41 #[.pointer (some ⟨br, 0, none⟩)] w fun e w' => e = .returned (.int .i64 v) ∧ RdAt w' br a xs.length c nx ∧ Chg w w' (fun j => j = br) := by
  have HR : Hid (∀ w', Below w.heap.size w w' → Calls Tryz.prog 74 #[.slice a xs.length c, .int .i64 at'] w' fun e w'' => e = .returned (.tuple #[.int .i64 v, .int .i64 nx, .int .i64 0]) ∧ w'' = w') := fun w' hb' => by
    have := readNumber_any a c xs at' w' (hx.below hb') hb hm
    rw [hr] at this
    exact this
  have HB : Hid (RdAt w br a xs.length c at') := h
  obtain ⟨c0, c1⟩ := cells_2 h
  have f2 := free_2 h
  clear h hx hb hm hr
  go_enter Tryz.func41, Tryz.ntmps41
  go_wp2_with fail
  go_region_held3 (fun w' => w'.cell? ⟨br, 0, none⟩ = some (.slice a xs.length c) ∧ w'.cell? ⟨br, 1, none⟩ = some (.int .i64 at')) (first | exact ⟨c0, c1⟩ | go_keep)
    (first
    | (go_at_call 74; refine (HR.out _ (below_drew (Below.refl _ _))).mono ?_; rintro e w1 ⟨rfl, rfl⟩)
    | fail)
  go_wp2_with fail
  refine (must_true _).mono ?_
  rintro e w2 ⟨rfl, rfl⟩
  go_wp2_with fail
  go_ret
  exact ⟨rfl, same_blk (w := World.drew w) HB.out rfl, (Chg.drew (Chg.refl _ _)).trans (Chg.set _ _ _)⟩
set_option maxHeartbeats 1600000 in
theorem rNumber_bad (br : Nat) (a : Option Addr) (c : Nat) (xs : List Int) (at' : Int) (w : World) (h : RdAt w br a xs.length c at') (hx : Bys w a xs) (hb : Byt xs) (hm : xs.length ≤ 1000000) (hr : (rdAny at' xs).2.2 ≠ 0) :
    Calls Tryz.prog 41 #[.pointer (some ⟨br, 0, none⟩)] w fun e w' => e = .panicked PN ∧ Below w.heap.size w w' := by
  obtain ⟨v, nx, cd, hq⟩ : ∃ v nx cd, rdAny at' xs = (v, nx, cd) := ⟨_, _, _, rfl⟩
  rw [hq] at hr
  have hcd : (cd == 0) = false := by simpa using hr
  have HR : Hid (∀ w', Below w.heap.size w w' → Calls Tryz.prog 74 #[.slice a xs.length c, .int .i64 at'] w' fun e w'' => e = .returned (.tuple #[.int .i64 v, .int .i64 nx, .int .i64 cd]) ∧ w'' = w') := fun w' hb' => by
    have := readNumber_any a c xs at' w' (hx.below hb') hb hm
    rw [hq] at this
    exact this
  have HB : Hid (RdAt w br a xs.length c at') := h
  obtain ⟨c0, c1⟩ := cells_2 h
  clear h hx hb hm hr hq
  go_enter Tryz.func41, Tryz.ntmps41
  go_wp2_with fail
  go_region_held3 (fun w' => w'.cell? ⟨br, 0, none⟩ = some (.slice a xs.length c) ∧ w'.cell? ⟨br, 1, none⟩ = some (.int .i64 at')) (first | exact ⟨c0, c1⟩ | go_keep)
    (first
    | (go_at_call 74; refine (HR.out _ (below_drew (Below.refl _ _))).mono ?_; rintro e w1 ⟨rfl, rfl⟩)
    | fail)
  go_wp2_with fail
  refine (must_false _).mono ?_
  rintro e w2 ⟨rfl, rfl⟩
  go_wp2_with fail
  exact ⟨rfl, rfl, below_drew (Below.refl _ _)⟩
set_option maxHeartbeats 1600000 in
theorem rText_ok (br : Nat) (a : Option Addr) (c : Nat) (xs : List Int) (at' : Int) (v : ByteArray) (nx : Int) (w : World) (h : RdAt w br a xs.length c at') (hx : Bys w a xs) (hb : Byt xs) (hm : xs.length ≤ 1000000) (hc : xs.length ≤ c) (hcm : c ≤ maxLen) (hr : rtAny at' xs = (v, nx, 0)) :
    Calls Tryz.prog 42 #[.pointer (some ⟨br, 0, none⟩)] w fun e w' => e = .returned (.string v) ∧ RdAt w' br a xs.length c nx ∧ Chg w w' (fun j => j = br) := by
  have HR : Hid (∀ w', Below w.heap.size w w' → Calls Tryz.prog 75 #[.slice a xs.length c, .int .i64 at'] w' fun e w'' => e = .returned (.tuple #[.string v, .int .i64 nx, .int .i64 0]) ∧ w'' = w') := fun w' hb' => by
    have := readText_any a c xs at' w' (hx.below hb') hb hm hc hcm
    rw [hr] at this
    exact this
  have HB : Hid (RdAt w br a xs.length c at') := h
  obtain ⟨c0, c1⟩ := cells_2 h
  have f2 := free_2 h
  clear h hx hb hm hc hcm hr
  go_enter Tryz.func42, Tryz.ntmps42
  go_wp2_with fail
  go_region_held3 (fun w' => w'.cell? ⟨br, 0, none⟩ = some (.slice a xs.length c) ∧ w'.cell? ⟨br, 1, none⟩ = some (.int .i64 at')) (first | exact ⟨c0, c1⟩ | go_keep)
    (first
    | (go_at_call 75; refine (HR.out _ (below_drew (Below.refl _ _))).mono ?_; rintro e w1 ⟨rfl, rfl⟩)
    | fail)
  go_wp2_with fail
  refine (must_true _).mono ?_
  rintro e w2 ⟨rfl, rfl⟩
  go_wp2_with fail
  go_ret
  exact ⟨rfl, same_blk (w := World.drew w) HB.out rfl, (Chg.drew (Chg.refl _ _)).trans (Chg.set _ _ _)⟩
set_option maxHeartbeats 1600000 in
theorem rText_bad (br : Nat) (a : Option Addr) (c : Nat) (xs : List Int) (at' : Int) (w : World) (h : RdAt w br a xs.length c at') (hx : Bys w a xs) (hb : Byt xs) (hm : xs.length ≤ 1000000) (hc : xs.length ≤ c) (hcm : c ≤ maxLen) (hr : (rtAny at' xs).2.2 ≠ 0) :
    Calls Tryz.prog 42 #[.pointer (some ⟨br, 0, none⟩)] w fun e w' => e = .panicked PN ∧ Below w.heap.size w w' := by
  obtain ⟨v, nx, cd, hq⟩ : ∃ v nx cd, rtAny at' xs = (v, nx, cd) := ⟨_, _, _, rfl⟩
  rw [hq] at hr
  have hcd : (cd == 0) = false := by simpa using hr
  have HR : Hid (∀ w', Below w.heap.size w w' → Calls Tryz.prog 75 #[.slice a xs.length c, .int .i64 at'] w' fun e w'' => e = .returned (.tuple #[.string v, .int .i64 nx, .int .i64 cd]) ∧ w'' = w') := fun w' hb' => by
    have := readText_any a c xs at' w' (hx.below hb') hb hm hc hcm
    rw [hq] at this
    exact this
  have HB : Hid (RdAt w br a xs.length c at') := h
  obtain ⟨c0, c1⟩ := cells_2 h
  clear h hx hb hm hc hcm hr hq
  go_enter Tryz.func42, Tryz.ntmps42
  go_wp2_with fail
  go_region_held3 (fun w' => w'.cell? ⟨br, 0, none⟩ = some (.slice a xs.length c) ∧ w'.cell? ⟨br, 1, none⟩ = some (.int .i64 at')) (first | exact ⟨c0, c1⟩ | go_keep)
    (first
    | (go_at_call 75; refine (HR.out _ (below_drew (Below.refl _ _))).mono ?_; rintro e w1 ⟨rfl, rfl⟩)
    | fail)
  go_wp2_with fail
  refine (must_false _).mono ?_
  rintro e w2 ⟨rfl, rfl⟩
  go_wp2_with fail
  exact ⟨rfl, rfl, below_drew (Below.refl _ _)⟩
end Go.Proofs.YtponpkfdkdnaeaaGreatDoor.W
namespace Go.Proofs.YtponpkfdkdnaeaaGreatDoor.W
open Go.RowKit
set_option linter.unusedVariables false
set_option linter.unusedSimpArgs false

/-- One node at a place of the bytes. -/
def rdOne (xs : List Int) (at' : Int) : Option (SeenT × Int) :=
  if (rtAny at' xs).2.2 = 0 then
    if (rtAny (rtAny at' xs).2.1 xs).2.2 = 0 then
      if (rdAny (rtAny (rtAny at' xs).2.1 xs).2.1 xs).2.2 = 0 then
        some (⟨(rtAny at' xs).1, (rtAny (rtAny at' xs).2.1 xs).1, (rdAny (rtAny (rtAny at' xs).2.1 xs).2.1 xs).1⟩, (rdAny (rtAny (rtAny at' xs).2.1 xs).2.1 xs).2.1)
      else none
    else none
  else none
theorem rdOne_1 {xs : List Int} {at' : Int} (h : (rtAny at' xs).2.2 ≠ 0) : rdOne xs at' = none := by unfold rdOne; rw [if_neg h]
theorem rdOne_2 {xs : List Int} {at' a1 : Int} {p : ByteArray} (h : rtAny at' xs = (p, a1, 0)) (h2 : (rtAny a1 xs).2.2 ≠ 0) : rdOne xs at' = none := by unfold rdOne; simp [h, h2]
theorem rdOne_3 {xs : List Int} {at' a1 a2 : Int} {p d : ByteArray} (h : rtAny at' xs = (p, a1, 0)) (h2 : rtAny a1 xs = (d, a2, 0)) (h3 : (rdAny a2 xs).2.2 ≠ 0) : rdOne xs at' = none := by unfold rdOne; simp [h, h2, h3]
theorem rdOne_4 {xs : List Int} {at' a1 a2 v a3 : Int} {p d : ByteArray} (h : rtAny at' xs = (p, a1, 0)) (h2 : rtAny a1 xs = (d, a2, 0)) (h3 : rdAny a2 xs = (v, a3, 0)) : rdOne xs at' = some (⟨p, d, v⟩, a3) := by unfold rdOne; simp [h, h2, h3]
def rdMany (xs : List Int) (at' : Int) : Nat → Option (List SeenT × Int)
  | 0 => some ([], at')
  | n + 1 => match rdMany xs at' n with
    | none => none
    | some r => match rdOne xs r.2 with
      | none => none
      | some s => some (r.1 ++ [s.1], s.2)
theorem rdMany_none {xs : List Int} {at' : Int} {n m : Nat} (h : rdMany xs at' n = none) (hm : n ≤ m) : rdMany xs at' m = none := by
  induction m with
  | zero =>
    obtain rfl : n = 0 := by omega
    exact h
  | succ m ih =>
    by_cases e : n = m + 1
    · subst e; exact h
    · simp only [rdMany, ih (by omega)]
theorem rdMany_no {xs : List Int} {at' a1 : Int} {n : Nat} {l : List SeenT} (h : rdMany xs at' n = some (l, a1)) (h1 : rdOne xs a1 = none) : rdMany xs at' (n + 1) = none := by simp only [rdMany, h, h1]
theorem rdMany_step {xs : List Int} {at' a1 a2 : Int} {n : Nat} {l : List SeenT} {s : SeenT} (h : rdMany xs at' n = some (l, a1)) (h1 : rdOne xs a1 = some (s, a2)) : rdMany xs at' (n + 1) = some (l ++ [s], a2) := by simp only [rdMany, h, h1]
theorem rdMany_len {xs : List Int} {at' : Int} : ∀ {n : Nat} {l : List SeenT} {a1 : Int}, rdMany xs at' n = some (l, a1) → l.length = n
  | 0, l, a1, h => by simp only [rdMany, Option.some.injEq, Prod.mk.injEq] at h; rw [← h.1]; rfl
  | n + 1, l, a1, h => by
    simp only [rdMany] at h
    split at h
    · cases h
    · rename_i r hr
      split at h
      · cases h
      · rename_i s hs
        simp only [Option.some.injEq, Prod.mk.injEq] at h
        have := rdMany_len (l := r.1) (a1 := r.2) hr
        rw [← h.1, List.length_append, this]
        rfl
/-- What the bytes say ahead of the nodes: stamp, place, kind, count, and where the nodes begin. -/
structure HeadT where
  st : Int
  p : ByteArray
  k : Int
  n : Int
  at' : Int
def rdHead (xs : List Int) : Option HeadT :=
  if (rdAny 0 xs).2.2 = 0 then
    if (rtAny (rdAny 0 xs).2.1 xs).2.2 = 0 then
      if (rdAny (rtAny (rdAny 0 xs).2.1 xs).2.1 xs).2.2 = 0 then
        if (rdAny (rdAny (rtAny (rdAny 0 xs).2.1 xs).2.1 xs).2.1 xs).2.2 = 0 then
          some ⟨(rdAny 0 xs).1, (rtAny (rdAny 0 xs).2.1 xs).1, (rdAny (rtAny (rdAny 0 xs).2.1 xs).2.1 xs).1, (rdAny (rdAny (rtAny (rdAny 0 xs).2.1 xs).2.1 xs).2.1 xs).1, (rdAny (rdAny (rtAny (rdAny 0 xs).2.1 xs).2.1 xs).2.1 xs).2.1⟩
        else none
      else none
    else none
  else none
theorem rdHead_1 {xs : List Int} (h : (rdAny 0 xs).2.2 ≠ 0) : rdHead xs = none := by unfold rdHead; rw [if_neg h]
theorem rdHead_2 {xs : List Int} {st a1 : Int} (h : rdAny 0 xs = (st, a1, 0)) (h2 : (rtAny a1 xs).2.2 ≠ 0) : rdHead xs = none := by unfold rdHead; simp [h, h2]
theorem rdHead_3 {xs : List Int} {st a1 a2 : Int} {p : ByteArray} (h : rdAny 0 xs = (st, a1, 0)) (h2 : rtAny a1 xs = (p, a2, 0)) (h3 : (rdAny a2 xs).2.2 ≠ 0) : rdHead xs = none := by unfold rdHead; simp [h, h2, h3]
theorem rdHead_4 {xs : List Int} {st a1 a2 k a3 : Int} {p : ByteArray} (h : rdAny 0 xs = (st, a1, 0)) (h2 : rtAny a1 xs = (p, a2, 0)) (h3 : rdAny a2 xs = (k, a3, 0)) (h4 : (rdAny a3 xs).2.2 ≠ 0) : rdHead xs = none := by unfold rdHead; simp [h, h2, h3, h4]
theorem rdHead_5 {xs : List Int} {st a1 a2 k a3 n a4 : Int} {p : ByteArray} (h : rdAny 0 xs = (st, a1, 0)) (h2 : rtAny a1 xs = (p, a2, 0)) (h3 : rdAny a2 xs = (k, a3, 0)) (h4 : rdAny a3 xs = (n, a4, 0)) : rdHead xs = some ⟨st, p, k, n, a4⟩ := by unfold rdHead; simp [h, h2, h3, h4]
/-- What the bytes say: stamp, place, kind, nodes, and where they end. -/
structure SaysT where
  st : Int
  p : ByteArray
  k : Int
  l : List SeenT
  at' : Int
def rdShot (xs : List Int) : Option SaysT :=
  match rdHead xs with
  | none => none
  | some h => if 64 < h.n then none else match rdMany xs h.at' h.n.toNat with
    | none => none
    | some r => some ⟨h.st, h.p, h.k, r.1, r.2⟩
theorem rdShot_none {xs : List Int} (h : rdHead xs = none) : rdShot xs = none := by unfold rdShot; rw [h]
theorem rdShot_many {xs : List Int} {st k n a4 : Int} {p : ByteArray} (h : rdHead xs = some ⟨st, p, k, n, a4⟩) (hn : 64 < n) : rdShot xs = none := by unfold rdShot; rw [h]; simp only; rw [if_pos hn]
theorem rdShot_bad {xs : List Int} {st k a4 : Int} {n : Nat} {p : ByteArray} (h : rdHead xs = some ⟨st, p, k, (n : Int), a4⟩) (hm : rdMany xs a4 n = none) : rdShot xs = none := by
  unfold rdShot
  rw [h]
  simp only
  split
  · rfl
  · rw [Int.toNat_natCast, hm]
theorem rdShot_ok {xs : List Int} {st k a4 a5 : Int} {n : Nat} {p : ByteArray} {l : List SeenT} (h : rdHead xs = some ⟨st, p, k, (n : Int), a4⟩) (hn : n ≤ 64) (hm : rdMany xs a4 n = some (l, a5)) : rdShot xs = some ⟨st, p, k, l, a5⟩ := by
  unfold rdShot
  rw [h]
  simp only
  rw [if_neg (by omega), Int.toNat_natCast, hm]
theorem rd_nat {xs : List Int} {at' n nx : Int} (hb : Byt xs) (h : rdAny at' xs = (n, nx, 0)) : ∃ m : Nat, n = m ∧ m ≤ 2147483647 := by
  have := rdAny_ok hb h
  exact ⟨n.toNat, by omega, by omega⟩
/-- A triple by its parts. -/
theorem rd_split (at' : Int) (xs : List Int) : (rdAny at' xs).2.2 ≠ 0 ∨ ∃ v nx, rdAny at' xs = (v, nx, 0) := by
  by_cases h : (rdAny at' xs).2.2 = 0
  · exact .inr ⟨(rdAny at' xs).1, (rdAny at' xs).2.1, by rw [← h]⟩
  · exact .inl h
theorem rt_split (at' : Int) (xs : List Int) : (rtAny at' xs).2.2 ≠ 0 ∨ ∃ v nx, rtAny at' xs = (v, nx, 0) := by
  by_cases h : (rtAny at' xs).2.2 = 0
  · exact .inr ⟨(rtAny at' xs).1, (rtAny at' xs).2.1, by rw [← h]⟩
  · exact .inl h
end Go.Proofs.YtponpkfdkdnaeaaGreatDoor.W
