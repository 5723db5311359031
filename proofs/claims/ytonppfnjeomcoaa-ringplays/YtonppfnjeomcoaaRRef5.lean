/-
  The document's ring: After.
-/
import Derived.Test.YtonppfnjeomcoaaRRef4
namespace Go.Proofs.Ytonppfnjeomcoaa
open Go.RowKit Classical
set_option linter.unusedVariables false
set_option linter.unusedSimpArgs false

set_option maxHeartbeats 3200000 in
set_option maxRecDepth 100000 in
theorem rAfter_ok {w0 : World} (w : World) (bx : Nat) (n most : Int) {R : RingT} {F : Nat} {O : Int} {H : List EnT} {P : List PEnt} {la : Option Addr} {lc : Nat} (h : RefAt w0 w bx R F O H P la lc) (k0 m : Nat) (hk : n = ((R.floor + k0 : Nat) : Int)) (hkl : k0 ≤ R.l.length) (hm0 : 0 ≤ most) (hm1 : most ≤ 64) (hm : m = min most.toNat (R.l.length - k0)) :
    Calls Try.prog 52 #[.pointer (some ⟨bx, 0, none⟩), .int .i64 n, .int .i64 most] w fun e' w' => ∃ v Q, e' = .returned (.tuple #[v, .int .i64 0]) ∧ Q.map (·.e) = (R.l.drop k0).take m ∧ EntsAt w' v Q ∧ Below w.heap.size w w' := by
  obtain ⟨i0, hi, hz0, hz1, hz2⟩ := info_parts Try.infoEn
  have HX : Hid (RefAt w0 w bx R F O H P la lc) := h
  have HL : Hid (∀ w', Below w.heap.size w w' → _) := fun w' hb => rLast w' bx (h.below hb)
  have HF : Hid (∀ w', Below w.heap.size w w' → _) := fun w' hb => rFloor w' bx (h.below hb)
  obtain ⟨k1, k2, k3, k4, k5, k6⟩ := h.kept
  have hlast : R.last = R.floor + R.l.length := rfl
  obtain ⟨K, hK⟩ : ∃ K, R.l.length = K := ⟨_, rfl⟩
  rw [hK] at hlast hkl hm k6
  rw [hlast] at HL k5
  obtain ⟨fl, hfl⟩ : ∃ fl : Nat, R.floor = fl := ⟨_, rfl⟩
  obtain ⟨T, hT⟩ : ∃ T : Int, R.top = T := ⟨_, rfl⟩
  obtain ⟨of, hof⟩ : ∃ of : Int, R.of = of := ⟨_, rfl⟩
  rw [hT, hfl] at HL
  rw [hfl, hof] at HF
  rw [hfl] at hk k5
  obtain ⟨mo, rfl⟩ : ∃ mo : Nat, most = mo := ⟨most.toNat, by omega⟩
  rw [Int.toNat_natCast] at hm
  subst hk
  have HAT : Hid (∀ w' k (p : PEnt), Below w.heap.size w w' → P[H.length - R.l.length + k]? = some p → k < K → _) := fun w' k p hb hp hk => rAt_ok w' bx ((fl + 1 + k : Nat) : Int) (h.below hb) (by
    unfold RingT.atC
    rw [hfl, hlast, hfl, if_neg (by omega), if_neg (by omega)]) (H.length - R.l.length + k) p (by have := h.place (k := k) (by rw [hK]; exact hk); obtain ⟨_, _, _, h9⟩ := this; rw [hfl] at h9; rw [h9]) hp
  have HPL : Hid (∀ k, k < K → ∃ p, P[H.length - R.l.length + k]? = some p ∧ R.l[k]? = some p.e) := fun k hk => by
    obtain ⟨p, h1, h2, _⟩ := h.place (k := k) (by rw [hK]; exact hk)
    exact ⟨p, h1, h2⟩
  have HK : Hid (R.l.length = K) := hK
  have g1 : ¬ ((fl + k0 : Nat) : Int) < (fl : Int) := by omega
  have g2 : ¬ ((fl + K : Nat) : Int) < ((fl + k0 : Nat) : Int) := by omega
  have g3 : ¬ (mo : Int) < 0 := by omega
  have g4 : ¬ (64 : Int) < (mo : Int) := by omega
  have g5 : mo ≤ 64 := by omega
  obtain ⟨A, hA⟩ : ∃ A, fl + k0 = A := ⟨_, rfl⟩
  obtain ⟨L, hL⟩ : ∃ L, fl + K = L := ⟨_, rfl⟩
  rw [hA] at g1 g2 ⊢
  rw [hL] at g2 k5 HL
  have g1n : ¬ A < fl := by omega
  have g2n : ¬ L < A := by omega
  have d5 : decide (A < fl) = false := by simpa using g1n
  have d6 : decide (L < A) = false := by simpa using g2n
  have d1 : decide ((mo : Int) < 0) = false := by simp
  have d2 : decide ((64 : Int) < (mo : Int)) = false := by simpa using g4
  have d3 : decide (64 < mo) = false := by simp; omega
  have d4 : ¬ 64 < mo := by omega
  have HAL : Hid (fl + k0 = A ∧ fl + K = L ∧ m = min mo (K - k0) ∧ k0 ≤ K) := ⟨hA, hL, hm, hkl⟩
  have hAL : A ≤ L := by omega
  clear h hT hfl hof k1 k2 k3 k4 hlast hK hm0 hm1 hA hL
  go_enter Try.func52, Try.ntmps52
  go_wp2_with fail
  refine Calls.mono (HF.out _ (Below.refl _ _)) ?_
  rintro e' w1 ⟨rfl, hb1⟩
  have HB1 : Hid (Below w.heap.size w w1) := hb1
  clear hb1
  go_wp2_with fail
  refine Calls.mono (HL.out _ HB1.out) ?_
  rintro e' w2 ⟨rfl, hb2⟩
  have HB2 : Hid (Below w.heap.size w w2) := trans2 HB1.out hb2
  clear hb2 HL HF HB1
  have hmo : m ≤ mo := by have := HAL.out.2.2.1; omega
  have hmL : A + m ≤ L := by have h1 := HAL.out.1; have h2 := HAL.out.2.1; have h3 := HAL.out.2.2.1; have h4 := HAL.out.2.2.2; omega
  have HEND : Hid (m = mo ∨ A + m = L) := by have h1 := HAL.out.1; have h2 := HAL.out.2.1; have h3 := HAL.out.2.2.1; have h4 := HAL.out.2.2.2; show _ ∨ _; omega
  clear hm
  go_wp2_with fail
  clear d1 d2 d3 d4 d5 d6 g1 g2 g3 g4 g1n g2n
  go_loopw [12, 13] (fun mv sv wr => ∃ (j : Nat) (Q : List PEnt), sv = .int .i64 ((A + 1 + j : Nat) : Int) ∧ j ≤ m ∧ (∃ ma mc, mv = .slice ma j mc) ∧ Hid (Q.length = j ∧ Q.map (·.e) = (R.l.drop k0).take j ∧ ∀ p ∈ Q, p ∈ P) ∧ Hid (wr.ownsRow w.heap.size 33 6 mv j (rowCs PEnt.cells Q)) ∧ Hid (Below w.heap.size w wr)) (fun _ sv _ => L + 1 - (intOf sv).toNat)
  case atStart => exact ⟨0, [], by simp, Nat.zero_le _, ⟨_, _, rfl⟩, ⟨rfl, rfl, fun p hp => by cases hp⟩, World.ownsRow_nil _ _ _ _, HB2⟩
  case round =>
    obtain ⟨j, Q, rfl, hj, ⟨ma, mc, rfl⟩, HQ, HR, HB⟩ := hrel
    by_cases hlt : j < m
    · have hkj : k0 + j < K := by have h1 := HAL.out.1; have h2 := HAL.out.2.1; omega
      obtain ⟨p, hp, hpl⟩ := HPL.out (k0 + j) hkj
      have HA1 : Hid _ := HAT.out wr (k0 + j) p HB.out hp hkj
      have hS : fl + 1 + (k0 + j) = A + 1 + j := by have h1 := HAL.out.1; omega
      rw [hS] at HA1
      obtain ⟨pa, pc, hpx, -⟩ := (HX.out.esat.rd p (List.mem_of_getElem? hp)).x
      have HPP : Hid (p ∈ P ∧ R.l[k0 + j]? = some p.e) := ⟨List.mem_of_getElem? hp, hpl⟩
      obtain ⟨⟨ps, pv, pk, pse, prq, po⟩, px⟩ := p
      simp only at hpx hpl
      subst hpx
      obtain ⟨pn, hpn⟩ : ∃ pn, po.length = pn := ⟨_, rfl⟩
      rw [hpn] at HA1 HPP
      obtain ⟨S, hSS⟩ : ∃ S, A + 1 + j = S := ⟨_, rfl⟩
      rw [hSS] at HA1 ⊢
      have c1 : (S : Int) ≤ (L : Int) := by omega
      have c2 : (j : Int) < (mo : Int) := by omega
      have c3 : S ≤ L := by omega
      have HSS : Hid (A + 1 + j = S) := hSS
      clear hp hpl hpn hS hkj hSS
      go_wp2_with fail
      refine Calls.mono HA1.out ?_
      rintro e' w3 ⟨rfl, hb3⟩
      have HB3 : Hid (Below w.heap.size w w3) := trans2 HB.out hb3
      have HR0 : Hid (((w3.alloc (.cells #[.int .i64 ps, .int .i64 pv, .int .i64 pk, .int .i64 pse, .int .i64 prq, .slice pa pn pc] 33)).alloc (.cells #[.int .i64 ps, .int .i64 pv, .int .i64 pk, .int .i64 pse, .int .i64 prq, .slice pa pn pc] 33)).ownsRow w.heap.size 33 6 (.slice ma j mc) j (rowCs PEnt.cells Q)) := ((owns_below HR.out hb3).alloc _).alloc _
      have HC0 : Hid (∀ i u, [Value.int .i64 ps, .int .i64 pv, .int .i64 pk, .int .i64 pse, .int .i64 prq, .slice pa pn pc][i]? = some u → ((w3.alloc (.cells #[.int .i64 ps, .int .i64 pv, .int .i64 pk, .int .i64 pse, .int .i64 prq, .slice pa pn pc] 33)).alloc (.cells #[.int .i64 ps, .int .i64 pv, .int .i64 pk, .int .i64 pse, .int .i64 prq, .slice pa pn pc] 33)).cell? ((⟨w3.heap.size + 1, 0, none⟩ : Addr).add i) = some u) := by
        have h9 := cells_new (w3.alloc (.cells #[.int .i64 ps, .int .i64 pv, .int .i64 pk, .int .i64 pse, .int .i64 prq, .slice pa pn pc] 33)) [.int .i64 ps, .int .i64 pv, .int .i64 pk, .int .i64 pse, .int .i64 prq, .slice pa pn pc] 33
        rw [World.size_alloc] at h9
        exact h9
      have H1C : Hid (∀ u ∈ [Value.int .i64 ps, .int .i64 pv, .int .i64 pk, .int .i64 pse, .int .i64 prq, .slice pa pn pc], u.oneCell' = true) := fun u hu => by
        simp only [List.mem_cons, List.not_mem_nil, or_false] at hu
        rcases hu with rfl | rfl | rfl | rfl | rfl | rfl <;> rfl
      have HMX : Hid (j + 1 ≤ maxLen) := by show j + 1 ≤ maxLen; unfold maxLen; omega
      have hby : (j + 1) * 64 ≤ 140737488355328 := by omega
      have HWS : Hid (w.heap.size ≤ ((w3.alloc (.cells #[.int .i64 ps, .int .i64 pv, .int .i64 pk, .int .i64 pse, .int .i64 prq, .slice pa pn pc] 33)).alloc (.cells #[.int .i64 ps, .int .i64 pv, .int .i64 pk, .int .i64 pse, .int .i64 prq, .slice pa pn pc] 33)).heap.size) := by show _ ≤ _; rw [World.size_alloc, World.size_alloc]; have := HB3.out.size; omega
      clear hb3 HA1
      go_wp2_with (at_builtin; refine wpList_append_own_at _ rfl _ _ 25 rfl w.heap.size 33 i0 (.agg #[.int .i64 0, .int .i64 0, .int .i64 0, .int .i64 0, .int .i64 0, .slice none 0 0]) 6 64 Try.underlying25 hi hz0 hz1 hz2 rfl (by decide) (.slice ma j mc) j (rowCs PEnt.cells Q) rfl HR0.out ⟨w3.heap.size + 1, 0, none⟩ 1 1 [.int .i64 ps, .int .i64 pv, .int .i64 pk, .int .i64 pse, .int .i64 prq, .slice pa pn pc] rfl rfl HC0.out H1C.out HMX.out hby HWS.out ?_)
      intro v' w4 hown' hgrow _ hat
      obtain ⟨na, nc, rfl, -, -⟩ := owns_form hown'
      have HR4 : Hid (w4.ownsRow w.heap.size 33 6 (.slice na (j + 1) nc) (j + 1) (rowCs PEnt.cells (Q ++ [⟨⟨ps, pv, pk, pse, prq, po⟩, .slice pa pn pc⟩]))) := by
        have h9 : rowCs PEnt.cells (Q ++ [(⟨⟨ps, pv, pk, pse, prq, po⟩, .slice pa pn pc⟩ : PEnt)]) = rowCs PEnt.cells Q ++ [.int .i64 ps, .int .i64 pv, .int .i64 pk, .int .i64 pse, .int .i64 prq, .slice pa pn pc] := by
          rw [rowCs_append]
          simp [rowCs]
        rw [h9]
        exact hown'
      have HB4 : Hid (Below w.heap.size w w4) := ((HB3.out.alloc HB3.out.size _).alloc (by rw [World.size_alloc]; exact Nat.le_succ_of_le HB3.out.size) _).grown hgrow HWS.out (fun i hi => (HR0.out.lt i hi).1)
      have HQ4 : Hid ((Q ++ [(⟨⟨ps, pv, pk, pse, prq, po⟩, .slice pa pn pc⟩ : PEnt)]).length = j + 1 ∧ (Q ++ [(⟨⟨ps, pv, pk, pse, prq, po⟩, .slice pa pn pc⟩ : PEnt)]).map (·.e) = (R.l.drop k0).take (j + 1) ∧ ∀ p ∈ Q ++ [(⟨⟨ps, pv, pk, pse, prq, po⟩, .slice pa pn pc⟩ : PEnt)], p ∈ P) := by
        refine ⟨by rw [List.length_append, HQ.out.1]; rfl, ?_, fun p hp => ?_⟩
        · rw [List.map_append, HQ.out.2.1, take_at (l := R.l.drop k0) (q := j) (o := ⟨ps, pv, pk, pse, prq, po⟩) (by rw [List.getElem?_drop]; exact HPP.out.2)]
          rfl
        · rcases List.mem_append.1 hp with h1 | h1
          · exact HQ.out.2.2 p h1
          · rw [List.mem_singleton] at h1; rw [h1]; exact HPP.out.1
      have e9 : ((A + 1 + (j + 1) : Nat) : Int) = (S : Int) + 1 := by have := HSS.out; omega
      clear hown' hgrow hat hby HR0 HC0 H1C HWS HMX
      go_wp2_with fail
      go_roundw
      case rel => exact ⟨j + 1, _, by rw [e9], by omega, ⟨_, _, rfl⟩, HQ4, HR4, HB4⟩
      case measure => simp [intOf]; omega
    · obtain rfl : j = m := by omega
      have FIN : Hid (EntsAt wr (.slice ma j mc) Q) := ⟨by rw [HQ.out.1]; exact owns_lower HR.out, fun p hp => owns_below (HX.out.mem.ops p (HQ.out.2.2 p hp)) HB.out⟩
      have hor : ¬ A + 1 + j ≤ L ∨ (A + 1 + j ≤ L ∧ j = mo) := by have := HEND.out; omega
      obtain ⟨S, hSS⟩ : ∃ S, A + 1 + j = S := ⟨_, rfl⟩
      rw [hSS] at hor ⊢
      rcases hor with h1 | ⟨h1, h2⟩
      · have c1 : ¬ (S : Int) ≤ (L : Int) := by omega
        clear hSS
        go_wp2_with fail
        go_ret2
        exact ⟨_, rfl, Q, HQ.out.2.1, FIN.out, HB.out⟩
      · have c1 : (S : Int) ≤ (L : Int) := by omega
        have c2 : ¬ (j : Int) < (mo : Int) := by omega
        have c3 : ¬ j < mo := by omega
        clear hSS h2
        go_wp2_with fail
        go_ret2
        exact ⟨_, rfl, Q, HQ.out.2.1, FIN.out, HB.out⟩
theorem rAfter {w0 : World} (w : World) (bx : Nat) (n most : Int) {R : RingT} {F : Nat} {O : Int} {H : List EnT} {P : List PEnt} {la : Option Addr} {lc : Nat} (h : RefAt w0 w bx R F O H P la lc) :
    Calls Try.prog 52 #[.pointer (some ⟨bx, 0, none⟩), .int .i64 n, .int .i64 most] w fun e' w' => ∃ v Q, e' = .returned (.tuple #[v, .int .i64 (R.afterC n most)]) ∧ Q.map (·.e) = R.afterL n most ∧ EntsAt w' v Q ∧ Below w.heap.size w w' := by
  by_cases hc : R.afterC n most = 0
  · have hcc : 0 ≤ most ∧ most ≤ 64 ∧ (R.floor : Int) ≤ n ∧ n ≤ (R.last : Int) := by
      unfold RingT.afterC at hc
      by_cases h0 : most < 0 ∨ 64 < most
      · rw [if_pos h0] at hc; cases hc
      rw [if_neg h0] at hc
      by_cases h1 : n < (R.floor : Int)
      · rw [if_pos h1] at hc; cases hc
      rw [if_neg h1] at hc
      by_cases h2 : (R.last : Int) < n
      · rw [if_pos h2] at hc; cases hc
      omega
    obtain ⟨h0, h1, h2, h3⟩ := hcc
    have hl : R.last = R.floor + R.l.length := rfl
    refine (rAfter_ok w bx n most h (n - R.floor).toNat (min most.toNat (R.l.length - (n - R.floor).toNat)) (by omega) (by omega) h0 h1 rfl).mono ?_
    rintro e' w' ⟨v, Q, rfl, g1, g2, g3⟩
    refine ⟨v, Q, by rw [hc], ?_, g2, g3⟩
    unfold RingT.afterL
    rw [if_pos hc, g1]
    congr 1
    omega
  · refine (rAfter_no w bx n most h hc).mono ?_
    rintro e' w' ⟨rfl, hb⟩
    refine ⟨_, [], rfl, ?_, ents_nil w', hb⟩
    unfold RingT.afterL
    rw [if_neg hc]
    rfl
end Go.Proofs.Ytonppfnjeomcoaa
