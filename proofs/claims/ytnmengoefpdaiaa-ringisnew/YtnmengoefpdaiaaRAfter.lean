/-
  ring: After.
-/
import Derived.Test.YtnmengoefpdaiaaRAt
namespace Go.Proofs.Ytnmengoefpdaiaa
open Go.RowKit
set_option linter.unusedVariables false
set_option linter.unusedSimpArgs false

theorem set6 (A B : List Value) (q : Nat) (hq : A.length = q) (y0 y1 y2 y3 y4 y5 x0 x1 x2 x3 x4 x5 : Value) : ((((((A ++ ([y0, y1, y2, y3, y4, y5] ++ B)).toArray.setIfInBounds q x0).setIfInBounds (q + 1) x1).setIfInBounds (q + 2) x2).setIfInBounds (q + 3) x3).setIfInBounds (q + 4) x4).setIfInBounds (q + 5) x5 = (A ++ ([x0, x1, x2, x3, x4, x5] ++ B)).toArray := by
  subst hq
  simp [List.set_append]
theorem blk_of_row {w : World} {g e s n : Nat} {xs : List Value} {m : Nat} (h : w.ownsRow 0 e s (.slice (some ⟨g, 0, none⟩) m m) n xs) (hn : n = m) : w.heap[g]? = some (.cells xs.toArray e (0, 0)) := by
  subst hn
  rcases h.2 with ⟨h0, _⟩ | ⟨g', cap', cur, hv, _, hg, _, _, hsz, ht⟩
  · cases h0
  · cases hv
    rw [hg]
    congr 2
    rw [← ht, List.take_of_length_le (by rw [Array.length_toList]; omega)]
theorem own_ne {w : World} {g k n : Nat} {cs : Array Value} {v : Value} {xs : List Value} (hg : w.heap[g]? = some (.cells cs 38 (0, 0))) (ho : w.ownsRow 0 49 5 v n xs) (hk : v.ownBlock = some k) : k ≠ g := by
  rintro rfl
  obtain ⟨cur, hc⟩ := owns_kind ho hk
  rw [hg] at hc
  cases hc
theorem rowCs_mid (Q R : List PEnt) (p : PEnt) : rowCs PEnt.cells (Q ++ p :: R) = rowCs PEnt.cells Q ++ (p.cells ++ rowCs PEnt.cells R) := by simp [rowCs]

set_option maxHeartbeats 1600000 in
theorem after_ok (p : Option Addr) (R : RingT) (k0 m : Nat) (most : Int) (w : World) (h : RP w p R) (hm0 : 0 ≤ most) (hm1 : most ≤ 64) (hk : k0 ≤ R.l.length) (hm : min most ((R.l.length : Int) - k0) = (m : Int)) :
    Calls Try.prog 9 #[.pointer p, .int .i64 ((R.floor + k0 : Nat) : Int), .int .i64 most] w fun e w' => ∃ v P, e = .returned (.tuple #[v, .int .i64 0]) ∧ P.map (·.e) = (R.l.drop k0).take m ∧ EntsAt w' v P ∧ Below w.heap.size w w' := by
  have HO : Hid (∀ w', Below w.heap.size w w' → _) := fun w' hb => orZero_any p R w' (h.below hb)
  obtain ⟨N, hN⟩ : ∃ N, R.floor + k0 = N := ⟨_, rfl⟩
  obtain ⟨L, hL⟩ : ∃ L, R.last = L := ⟨_, rfl⟩
  have hLN : N ≤ L := by have : R.floor + R.l.length = L := hL; omega
  have hmm : min most ((L : Int) - N) = (m : Int) := by rw [← hm]; have : R.floor + R.l.length = L := hL; congr 1; omega
  have hFN : R.floor ≤ N := by omega
  have hml : k0 + m ≤ R.l.length := by rw [Int.min_def] at hm; split at hm <;> omega
  have HN : Hid (R.floor + k0 = N) := hN
  have HL : Hid (R.last = L) := hL
  have hLm : L ≤ 2147483647 := by
    rw [← hL]
    rcases h with ⟨_, rfl⟩ | ⟨b, _, hr⟩
    · decide
    · exact hr.ok.max
  have hm64 : m ≤ 64 := by rw [Int.min_def] at hm; split at hm <;> omega
  rw [hN]
  clear h hL hN hm
  go_enter Try.func9, Try.ntmps9
  go_wp2_with fail
  refine Calls.mono (HO.out _ (Below.refl _ _)) ?_
  rintro e' w1 ⟨b, rfl, hr, hb, hp⟩
  have HB : Hid (Below w.heap.size w w1) := hb
  have c5 := hr.floor
  have c8 := hr.last
  rw [HL.out] at c8
  have HRU : Hid (∀ w', Below w1.heap.size w1 w' → _) := fun w' hb => run_any b k0 m R w' (hr.below hb) hml
  rw [HN.out] at HRU
  have HR : Hid (RingAt w1 b R) := hr
  clear hr hb hp HO
  go_wp2_with fail
  refine Calls.mono (HRU.out _ (Below.refl _ _)) ?_
  rintro e' w2 ⟨P, hP, rfl, hE, hb⟩
  have HP : Hid (P.map (·.e) = (R.l.drop k0).take m) := hP
  have HE : Hid (EntsAt w2 (.slice (some ⟨w1.heap.size, 0, none⟩) m m) P) := hE
  have HB2 : Hid (Below w.heap.size w w2) := trans2 HB.out hb
  have hPl : P.length = m := by
    have h1 := congrArg List.length hP
    rw [List.length_map, List.length_take, List.length_drop] at h1
    omega
  have HPL : Hid (P.length = m) := hPl
  have HG : Hid (w2.heap[w1.heap.size]? = some (.cells (rowCs PEnt.cells P).toArray 38 (0, 0))) := blk_of_row hE.row hPl
  have HGW : Hid (w.heap.size ≤ w1.heap.size) := HB.out.size
  clear hP hE hb hPl
  go_wp2_with fail
  clear hm0 hm1 hmm hLN hFN hLm hml c5 c8 hk HRU HL HN
  have hg : w1.heap.size < w2.heap.size := lt_of_blk HG.out
  go_loopw [44] (fun i wr => ∃ (q : Nat) (Q : List PEnt), i = .int .i64 q ∧ q ≤ m ∧ Hid (Q.length = q ∧ Q.map (·.e) = (P.take q).map (·.e) ∧ (∀ p ∈ Q, OwnOps wr p.x p.e.ops) ∧ (∀ p ∈ P, OwnOps wr p.x p.e.ops)) ∧ Hid (wr.heap[w1.heap.size]? = some (.cells (rowCs PEnt.cells (Q ++ P.drop q)).toArray 38 (0, 0))) ∧ Hid (Below w.heap.size w wr)) (fun i _ => m - (intOf i).toNat)
  case atStart => exact ⟨0, [], rfl, Nat.zero_le _, ⟨rfl, rfl, fun p hp => (by cases hp), HE.out.ops⟩, HG, HB2⟩
  case round =>
    obtain ⟨q, Q, rfl, hq, HQ, HGr, HBr⟩ := hrel
    by_cases hlt : q < m
    · have hlt' : (q : Int) < (m : Int) := by omega
      obtain ⟨x, hx⟩ : ∃ x, P[q]? = some x := ⟨P[q]'(by rw [HPL.out]; exact hlt), List.getElem?_eq_getElem _⟩
      have hdr : P.drop q = x :: P.drop (q + 1) := by
        obtain ⟨h1, h2⟩ := List.getElem?_eq_some_iff.1 hx
        rw [List.drop_eq_getElem_cons h1, h2]
      have hgr := HGr.out
      rw [hdr] at hgr
      have hcs : ∀ j v, x.cells[j]? = some v → wr.cell? ⟨w1.heap.size, q * 6 + j, none⟩ = some v := fun j v hj => by
        rw [cell_blk hgr, List.getElem?_toArray]
        have h1 := rowCs_at pent_len (Q ++ x :: P.drop (q + 1)) q j x v (by rw [List.getElem?_append_right (by rw [HQ.out.1]; exact Nat.le_refl _), HQ.out.1, Nat.sub_self]; rfl) hj []
        rw [List.append_nil] at h1
        exact h1
      have g0 := hcs 0 _ rfl
      rw [Nat.add_zero] at g0
      have g1 := hcs 1 _ rfl
      have g2 := hcs 2 _ rfl
      have g3 := hcs 3 _ rfl
      have g4 := hcs 4 _ rfl
      have g5 := hcs 5 _ rfl
      have hxo := HQ.out.2.2.2 x (List.mem_of_getElem? hx)
      obtain ⟨xe, xv⟩ := x
      obtain ⟨xa, xc, hxv, -, -⟩ := owns_form hxo
      simp only at hxv hxo g0 g1 g2 g3 g4 g5
      subst hxv
      have hsm : xe.Small := by
        have h1 : xe ∈ R.l := by
          have h2 : xe ∈ P.map (·.e) := List.mem_map_of_mem (f := (·.e)) (List.mem_of_getElem? hx)
          rw [HP.out] at h2
          exact List.mem_of_mem_drop (List.mem_of_mem_take h2)
        exact HR.out.ok.small xe h1
      have HOW : Hid (∀ w', Below wr.heap.size wr w' → _) := fun w' hb => own_any xe xa xc xe.ops.length w' rfl ((os_of_own hxo).below hb) hsm
      have HGR : Hid (wr.heap[w1.heap.size]? = some (.cells (rowCs PEnt.cells (Q ++ ⟨xe, .slice xa xe.ops.length xc⟩ :: P.drop (q + 1))).toArray 38 (0, 0))) := hgr
      have HX : Hid (P[q]? = some ⟨xe, .slice xa xe.ops.length xc⟩) := hx
      clear hcs hgr hdr hxo hsm hx
      go_wp2_with fail
      refine Calls.mono (HOW.out _ ((Below.refl _ _).alloc (Nat.le_refl _) _)) ?_
      rintro e' w3 ⟨y, rfl, ho3, hb3, hx3⟩
      have HW3 : Hid (Below wr.heap.size wr w3) := trans2 ((Below.refl _ _).alloc (Nat.le_refl _) _) hb3
      have HO3 : Hid (OwnOps w3 y xe.ops) := ho3
      have HG3 : Hid (w3.heap[w1.heap.size]? = some (.cells (rowCs PEnt.cells (Q ++ ⟨xe, .slice xa xe.ops.length xc⟩ :: P.drop (q + 1))).toArray 38 (0, 0))) := kept_block HW3.out HGR.out
      have hsz : (rowCs PEnt.cells (Q ++ ⟨xe, .slice xa xe.ops.length xc⟩ :: P.drop (q + 1))).length = m * 6 := by
        rw [rowCs_len pent_len, List.length_append, HQ.out.1, List.length_cons, List.length_drop, HPL.out]; omega
      obtain ⟨y0, y1, y2, y3, y4, y5, p0, p1, p2, p3, p4, p5⟩ := six_cells HG3.out (o := q * 6) (by rw [List.size_toArray, hsz]; omega)
      have f3 := free_blk HG3.out
      obtain ⟨ya, yn, yc, rfl⟩ : ∃ ya yn yc, y = .slice ya yn yc := by obtain ⟨ya, yc, h, _⟩ := owns_form ho3; exact ⟨_, _, _, h⟩
      clear ho3 hb3 hx3 hsz
      go_wp2_with fail
      go_roundw
      case rel =>
        have hbx := putE_box (o := q * 6) (x0 := .int .i64 xe.s) (x1 := .int .i64 xe.v) (x2 := .int .i64 xe.k) (x3 := .int .i64 xe.se) (x4 := .int .i64 xe.rq) (x5 := .slice ya yn yc) HG3.out
        rw [rowCs_mid, set6 _ _ (q * 6) (by rw [rowCs_len pent_len, HQ.out.1])] at hbx
        have hch := putE_chg w3 w1.heap.size (q * 6) (.int .i64 xe.s) (.int .i64 xe.v) (.int .i64 xe.k) (.int .i64 xe.se) (.int .i64 xe.rq) (.slice ya yn yc)
        refine ⟨q + 1, Q ++ [⟨xe, .slice ya yn yc⟩], by go_num, by omega, ⟨?_, ?_, ?_, ?_⟩, ?_, ?_⟩
        · rw [List.length_append, HQ.out.1]; rfl
        · rw [take_at HX.out, List.map_append, List.map_append, HQ.out.2.1]; rfl
        · intro p hp
          rcases List.mem_append.1 hp with hp | hp
          · have h1 := owns_below (HQ.out.2.2.1 p hp) HW3.out
            exact owns_chg h1 hch (fun k hk e => own_ne HG3.out h1 hk e)
          · rw [List.mem_singleton] at hp
            subst hp
            exact owns_chg HO3.out hch (fun k hk e => own_ne HG3.out HO3.out hk e)
        · intro p hp
          have h1 := owns_below (HQ.out.2.2.2 p hp) HW3.out
          exact owns_chg h1 hch (fun k hk e => own_ne HG3.out h1 hk e)
        · show _ = _
          rw [hbx, List.append_assoc, List.singleton_append, rowCs_mid]
        · exact (trans2 HBr.out HW3.out).trans (hch.below (Nat.le_trans HBr.out.size HW3.out.size) (fun k _ e => by rw [e]; exact HGW.out))
      case measure => simp [intOf]; omega
    · obtain rfl : q = m := by omega
      go_wp2_with fail
      go_ret2
      have hl := HPL.out
      have hgr := HGr.out
      rw [List.drop_of_length_le (by omega), List.append_nil] at hgr
      refine ⟨_, rfl, Q, ?_, ⟨?_, HQ.out.2.2.1⟩, HBr.out⟩
      · rw [HQ.out.2.1, List.take_of_length_le (by omega), HP.out]
      · rw [HQ.out.1]
        exact owns_of_blk hgr (by rw [rowCs_len pent_len, HQ.out.1]) (by unfold maxLen; omega)
set_option maxHeartbeats 1600000 in
theorem after_a (p : Option Addr) (R : RingT) (n most : Int) (w : World) (h : RP w p R) (h1 : most < 0) : Calls Try.prog 9 #[.pointer p, .int .i64 n, .int .i64 most] w fun e w' => e = .returned (.tuple #[.slice none 0 0, .int .i64 1]) ∧ Below w.heap.size w w' := by
  have HO : Hid (∀ w', Below w.heap.size w w' → _) := fun w' hb => orZero_any p R w' (h.below hb)
  obtain ⟨L, hL⟩ : ∃ L, R.last = L := ⟨_, rfl⟩
  have hfl : R.floor ≤ L := by rw [← hL]; exact Nat.le_add_right _ _
  have HL : Hid (R.last = L) := hL
  clear h hL
  go_enter Try.func9, Try.ntmps9
  go_wp2_with fail
  refine Calls.mono (HO.out _ (Below.refl _ _)) ?_
  rintro e' w1 ⟨b, rfl, hr, hb, hp⟩
  have HB : Hid (Below w.heap.size w w1) := hb
  have c5 := hr.floor
  have c8 := hr.last
  rw [HL.out] at c8
  clear hr hb hp HO
  go_wp2_with fail
  go_ret2
  exact ⟨rfl, HB.out⟩
set_option maxHeartbeats 1600000 in
theorem after_b (p : Option Addr) (R : RingT) (n most : Int) (w : World) (h : RP w p R) (h0 : ¬ most < 0) (h1 : 64 < most) : Calls Try.prog 9 #[.pointer p, .int .i64 n, .int .i64 most] w fun e w' => e = .returned (.tuple #[.slice none 0 0, .int .i64 1]) ∧ Below w.heap.size w w' := by
  have HO : Hid (∀ w', Below w.heap.size w w' → _) := fun w' hb => orZero_any p R w' (h.below hb)
  obtain ⟨L, hL⟩ : ∃ L, R.last = L := ⟨_, rfl⟩
  have hfl : R.floor ≤ L := by rw [← hL]; exact Nat.le_add_right _ _
  have HL : Hid (R.last = L) := hL
  clear h hL
  go_enter Try.func9, Try.ntmps9
  go_wp2_with fail
  refine Calls.mono (HO.out _ (Below.refl _ _)) ?_
  rintro e' w1 ⟨b, rfl, hr, hb, hp⟩
  have HB : Hid (Below w.heap.size w w1) := hb
  have c5 := hr.floor
  have c8 := hr.last
  rw [HL.out] at c8
  clear hr hb hp HO
  go_wp2_with fail
  go_ret2
  exact ⟨rfl, HB.out⟩
set_option maxHeartbeats 1600000 in
theorem after_c (p : Option Addr) (R : RingT) (n most : Int) (w : World) (h : RP w p R) (h0 : ¬ most < 0) (h1 : ¬ 64 < most) (h2 : n < R.floor) : Calls Try.prog 9 #[.pointer p, .int .i64 n, .int .i64 most] w fun e w' => e = .returned (.tuple #[.slice none 0 0, .int .i64 60]) ∧ Below w.heap.size w w' := by
  have HO : Hid (∀ w', Below w.heap.size w w' → _) := fun w' hb => orZero_any p R w' (h.below hb)
  obtain ⟨L, hL⟩ : ∃ L, R.last = L := ⟨_, rfl⟩
  have hfl : R.floor ≤ L := by rw [← hL]; exact Nat.le_add_right _ _
  have HL : Hid (R.last = L) := hL
  clear h hL
  go_enter Try.func9, Try.ntmps9
  go_wp2_with fail
  refine Calls.mono (HO.out _ (Below.refl _ _)) ?_
  rintro e' w1 ⟨b, rfl, hr, hb, hp⟩
  have HB : Hid (Below w.heap.size w w1) := hb
  have c5 := hr.floor
  have c8 := hr.last
  rw [HL.out] at c8
  clear hr hb hp HO
  go_wp2_with fail
  go_ret2
  exact ⟨rfl, HB.out⟩
set_option maxHeartbeats 1600000 in
theorem after_d (p : Option Addr) (R : RingT) (n most : Int) (w : World) (h : RP w p R) (h0 : ¬ most < 0) (h1 : ¬ 64 < most) (h2 : ¬ n < R.floor) (h3 : (R.last : Int) < n) : Calls Try.prog 9 #[.pointer p, .int .i64 n, .int .i64 most] w fun e w' => e = .returned (.tuple #[.slice none 0 0, .int .i64 61]) ∧ Below w.heap.size w w' := by
  have HO : Hid (∀ w', Below w.heap.size w w' → _) := fun w' hb => orZero_any p R w' (h.below hb)
  obtain ⟨L, hL⟩ : ∃ L, R.last = L := ⟨_, rfl⟩
  have hfl : R.floor ≤ L := by rw [← hL]; exact Nat.le_add_right _ _
  have HL : Hid (R.last = L) := hL
  rw [hL] at h3
  clear h hL
  go_enter Try.func9, Try.ntmps9
  go_wp2_with fail
  refine Calls.mono (HO.out _ (Below.refl _ _)) ?_
  rintro e' w1 ⟨b, rfl, hr, hb, hp⟩
  have HB : Hid (Below w.heap.size w w1) := hb
  have c5 := hr.floor
  have c8 := hr.last
  rw [HL.out] at c8
  clear hr hb hp HO
  go_wp2_with fail
  go_ret2
  exact ⟨rfl, HB.out⟩
def RingT.afterC (R : RingT) (n most : Int) : Int := if most < 0 ∨ 64 < most then 1 else if n < R.floor then 60 else if (R.last : Int) < n then 61 else 0
def RingT.afterL (R : RingT) (n most : Int) : List EnT := if R.afterC n most = 0 then (R.l.drop (n - R.floor).toNat).take (min most ((R.last : Int) - n)).toNat else []
theorem ents_nil (w : World) : EntsAt w (.slice none 0 0) [] := ⟨⟨rfl, .inl ⟨rfl, rfl⟩⟩, fun p hp => by cases hp⟩
theorem after_any (p : Option Addr) (R : RingT) (n most : Int) (w : World) (h : RP w p R) : Calls Try.prog 9 #[.pointer p, .int .i64 n, .int .i64 most] w fun e w' => ∃ v P, e = .returned (.tuple #[v, .int .i64 (R.afterC n most)]) ∧ P.map (·.e) = R.afterL n most ∧ EntsAt w' v P ∧ Below w.heap.size w w' := by
  have no : ∀ c : Int, R.afterC n most = c → c ≠ 0 → (Calls Try.prog 9 #[.pointer p, .int .i64 n, .int .i64 most] w fun e w' => e = .returned (.tuple #[.slice none 0 0, .int .i64 c]) ∧ Below w.heap.size w w') → Calls Try.prog 9 #[.pointer p, .int .i64 n, .int .i64 most] w fun e w' => ∃ v P, e = .returned (.tuple #[v, .int .i64 (R.afterC n most)]) ∧ P.map (·.e) = R.afterL n most ∧ EntsAt w' v P ∧ Below w.heap.size w w' := fun c hc h0 hk => by
    refine hk.mono ?_
    rintro e w' ⟨rfl, hb⟩
    refine ⟨_, [], by rw [hc], ?_, ents_nil w', hb⟩
    unfold RingT.afterL
    rw [hc, if_neg h0]
    rfl
  have hlast : (R.last : Int) = R.floor + R.l.length := by show ((R.floor + R.l.length : Nat) : Int) = _; omega
  by_cases h0 : most < 0
  · exact no 1 (by unfold RingT.afterC; rw [if_pos (.inl h0)]) (by decide) (after_a p R n most w h h0)
  by_cases h1 : 64 < most
  · exact no 1 (by unfold RingT.afterC; rw [if_pos (.inr h1)]) (by decide) (after_b p R n most w h h0 h1)
  have h01 : ¬ (most < 0 ∨ 64 < most) := fun h => h.elim h0 h1
  by_cases h2 : n < R.floor
  · exact no 60 (by unfold RingT.afterC; rw [if_neg h01, if_pos h2]) (by decide) (after_c p R n most w h h0 h1 h2)
  by_cases h3 : (R.last : Int) < n
  · exact no 61 (by unfold RingT.afterC; rw [if_neg h01, if_neg h2, if_pos h3]) (by decide) (after_d p R n most w h h0 h1 h2 h3)
  have hc : R.afterC n most = 0 := by unfold RingT.afterC; rw [if_neg h01, if_neg h2, if_neg h3]
  unfold RingT.afterL
  rw [hc, if_pos rfl]
  obtain ⟨k0, hk0⟩ : ∃ k0 : Nat, (n - R.floor).toNat = k0 := ⟨_, rfl⟩
  have hn : n = ((R.floor + k0 : Nat) : Int) := by omega
  rw [hk0]
  subst hn
  refine (after_ok p R k0 (min most ((R.last : Int) - ((R.floor + k0 : Nat) : Int))).toNat most w h (by omega) (by omega) (by omega) ?_).mono ?_
  · rw [show (R.last : Int) - ((R.floor + k0 : Nat) : Int) = (R.l.length : Int) - k0 by omega]
    rw [Int.min_def]
    split <;> omega
  · rintro e w' ⟨v, P, rfl, hP, hE, hb⟩
    exact ⟨v, P, rfl, hP, hE, hb⟩
end Go.Proofs.Ytnmengoefpdaiaa
