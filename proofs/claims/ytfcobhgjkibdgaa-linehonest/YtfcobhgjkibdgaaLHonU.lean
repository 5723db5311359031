/-
  heraldlaw16: step of what was sent: Send.
-/
import Derived.Test.YtfcobhgjkibdgaaLHonT
namespace Go.Proofs.Ytfcobhgjkibdgaa
open Go.RowKit
set_option linter.unusedVariables false
set_option linter.unusedSimpArgs false

theorem send_append : ∀ (a b : List MsT) (L : LnT), L.send (a ++ b) = (((L.send a).1.send b).1, (L.send a).2 ++ ((L.send a).1.send b).2)
  | [], b, L => rfl
  | x :: a, b, L => by
    show ((((L.put x false).1.send (a ++ b)).1), _ :: ((L.put x false).1.send (a ++ b)).2) = _
    rw [send_append a b]
    rfl
theorem send_at {L : LnT} {l : List MsT} {i : Nat} {x : MsT} (h : l[i]? = some x) : (L.send l).2[i]? = some (((L.send (l.take i)).1.put x false).2) := by
  have hi := (List.getElem?_eq_some_iff.1 h).1
  have e : l = l.take i ++ (x :: l.drop (i + 1)) := by
    obtain ⟨_, rfl⟩ := List.getElem?_eq_some_iff.1 h
    rw [← List.drop_eq_getElem_cons]
    exact (List.take_append_drop i l).symm
  have e2 : (L.send l).2 = (L.send (l.take i)).2 ++ ((L.send (l.take i)).1.send (x :: l.drop (i + 1))).2 := by rw [← congrArg (fun z => (LnT.send L z).2) e.symm, send_append]
  rw [e2, List.getElem?_append_right (by rw [send_len, List.length_take]; omega), send_len, List.length_take, Nat.min_eq_left (by omega), Nat.sub_self]
  rfl
set_option maxHeartbeats 6400000 in
set_option maxRecDepth 100000 in
theorem sstep_send {At : World → (Nat → Prop) → LnT → Value → Prop} (sv : Lines At) (w0 w : World) (K : Nat → Prop) (L : LnT) (p : Value) (S : Nat) (nv mv gv : Value) (xs : List SnX) (on n a t : Int) (ms : List MsT) (ma : Option Addr) (mn mc : Nat) (h : HoI At w0 w K L p S nv mv gv xs) (hon : Hon L xs) (hl : xs.length + 300 ≤ 1000000) (hgm : L.gv + 300 ≤ MaxG) (P : Nat → Prop) (hms : MssAt w P (.slice ma mn mc) ms) :
    Calls Try.prog 18 #[.pointer (some ⟨S, 0, none⟩), p, StL.val ⟨1, on, ms, n, a, t⟩ (.slice ma mn mc)] w fun e w' => e = .returned (.bool true) ∧ ∃ K' nv' mv' gv' xs', HoI At w0 w' K' (L.send (shL ms)).1 p S nv' mv' gv' xs' ∧ Hon (L.send (shL ms)).1 xs' ∧ xs'.length ≤ xs.length + 300 := by
  obtain ⟨W, hW⟩ : ∃ z, w.alloc (.cells #[.int .i64 1, .int .i64 on, .slice ma mn mc, .int .i64 n, .int .i64 a, .int .i64 t] 47) = z := ⟨_, rfl⟩
  obtain ⟨g, hg⟩ : ∃ z, w.heap.size = z := ⟨_, rfl⟩
  have hb : Below w.heap.size w W := by rw [← hW]; exact (Below.refl _ _).alloc (Nat.le_refl _) _
  have HB : Hid (W.heap[g]? = some (.cells #[.int .i64 1, .int .i64 on, .slice ma mn mc, .int .i64 n, .int .i64 a, .int .i64 t] 47 (0, 0))) := by show _ = _; rw [← hW, ← hg]; exact heap_alloc_new _ _
  have HI : Hid (HoI At w0 W K L p S nv mv gv xs) := h.at sv hb
  have HO : Hid (Hon L xs) := hon
  have HNK : Hid (¬ K g) := fun hk => by have := sv.lt h.at' g hk; omega
  have HW : Hid (_ = W) := hW
  have HG : Hid (w.heap.size = g) := hg
  have HBW : Hid (Below w.heap.size w W) := hb
  have HSH : Hid _ := short_any ms (.slice ma mn mc) W P (MssAt.keep hms (Kp.of_below hb _))
  obtain ⟨b0, b1, b2, b3, b4, b5⟩ := cells_6b HB.out
  clear hW hg hb h hon hms
  go_enter Try.func18, Try.ntmps18
  go_upto_region 1 with fail
  rw [HW.out, HG.out]
  go_wp2_with fail
  refine Calls.mono HSH.out ?_
  rintro e w1 ⟨u1, rfl, hu1, hb1⟩
  obtain ⟨ua, uc, rfl, _⟩ := row_form hu1
  obtain ⟨l, hl2⟩ : ∃ z, shL ms = z := ⟨_, rfl⟩
  have HLL : Hid (shL ms = l) := hl2
  have hl3 : l.length ≤ 300 := by rw [← hl2]; exact shL_len ms
  have HL6 : Hid (∀ m ∈ l, m.b.size ≤ 600) := by show ∀ m ∈ l, _; rw [← hl2]; exact shL_small ms
  rw [hl2] at hu1 ⊢
  obtain ⟨n1, hn1⟩ : ∃ z, l.length = z := ⟨_, rfl⟩
  have HN1 : Hid (l.length = n1) := hn1
  rw [hn1] at hl3 ⊢
  have HU1 : Hid (MsRow w1 W.heap.size (.slice ua n1 uc) l) := by rw [← hn1]; exact hu1
  have HI1 : Hid (HoI At w0 w1 K L p S nv mv gv xs) := HI.out.at sv hb1
  have HK1 : Hid (∀ j, K j → j < W.heap.size) := fun j hj => sv.lt HI.out.at' j hj
  have HS1 : Hid (∀ j, SnK S nv mv gv j → j < W.heap.size) := HI.out.sn.lt
  have HSD : Hid _ := sv.send w1 K L p (.slice ua n1 uc) l (fun j => W.heap.size ≤ j) HI1.out.at' HI1.out.ok (ms_row HU1.out (fun j hj => (row_block HU1.out j hj).1)) (fun j hj hk => by have := HK1.out j hk; omega) HL6.out (by rw [HN1.out]; omega) (by rw [HN1.out]; omega)
  clear hu1 hb1 hl2 hn1 b0 b1 b2 b3 b4 b5
  go_wp2_with fail
  refine Calls.mono HSD.out ?_
  rintro e w2 ⟨u2, K2, rfl, hu2, hk2, hE2⟩
  obtain ⟨va, vc, rfl, _⟩ := row_form hu2
  have HRL : Hid ((L.send l).2.length = n1) := by show _ = _; rw [send_len, HN1.out]
  rw [HRL.out]
  have HU2 : Hid (InsOwn w2 w1.heap.size (.slice va n1 vc) (L.send l).2) := by rw [← HRL.out]; exact hu2
  have HU12 : Hid (MsRow w2 W.heap.size (.slice ua n1 uc) l) := row_chg HU1.out hE2.chg (fun j hj hk => by have h1 := (row_block HU1.out j hj).1; have h2 := HK1.out j hk; omega)
  have HI2 : Hid (HoI At w0 w2 K2 (L.send l).1 p S nv mv gv xs) := HI1.out.call hE2 (HI1.out.ok.send HL6.out)
  have HD2 : Hid (∀ j, SnK S nv mv gv j → (Value.slice ua n1 uc).ownBlock ≠ some j ∧ (Value.slice va n1 vc).ownBlock ≠ some j) := fun j hj => by
    have h1 := HS1.out j hj
    refine ⟨fun e => ?_, fun e => ?_⟩
    · have := (row_block HU1.out j e).1; omega
    · have h2 := (row_block HU2.out j e).1
      have h3 := HI1.out.sn.lt j hj
      omega
  clear hu2 hk2 hE2
  go_wp2_with fail
  go_loopw [9, 10] (fun i _ wr => ∃ (q : Nat) (nv mv gv : Value) (ys : List SnX), i = .int .i64 q ∧ q ≤ n1 ∧ ys.length ≤ xs.length + q ∧ Hid (HoI At w0 wr K2 (L.send l).1 p S nv mv gv ys) ∧ Hid (Hon (L.send (l.take q)).1 ys) ∧ Hid (wr.ownsRow 0 23 3 (.slice ua n1 uc) l.length (l.flatMap MsT.cells) ∧ InsOwn wr 0 (.slice va n1 vc) (L.send l).2) ∧ Hid (∀ j, SnK S nv mv gv j → (Value.slice ua n1 uc).ownBlock ≠ some j ∧ (Value.slice va n1 vc).ownBlock ≠ some j)) (fun i _ _ => n1 - (intOf i).toNat)
  case atStart => exact ⟨0, nv, mv, gv, xs, rfl, Nat.zero_le _, Nat.le_refl _, HI2, HO, ⟨⟨HU12.out.1, HU12.out.2.elim .inl (fun ⟨a, b, c, d, _, e⟩ => .inr ⟨a, b, c, d, Nat.zero_le _, e⟩)⟩, ⟨HU2.out.1, HU2.out.2.elim .inl (fun ⟨a, b, c, d, _, e⟩ => .inr ⟨a, b, c, d, Nat.zero_le _, e⟩)⟩⟩, HD2⟩
  case round =>
    obtain ⟨q, nv', mv', gv', ys, rfl, hq, hys, HIr, HOr, HRr, HDr⟩ := hrel
    by_cases hlt : q < n1
    · have hqi : (q : Int) < (n1 : Int) := by omega
      obtain ⟨x, hx⟩ : ∃ x, l[q]? = some x := ⟨l[q]'(by rw [HN1.out]; exact hlt), List.getElem?_eq_getElem _⟩
      have hxn := send_at (L := L) hx
      obtain ⟨PP, hPP⟩ : ∃ z, (L.send (l.take q)).1.put x false = z := ⟨_, rfl⟩
      rw [hPP] at hxn
      obtain ⟨vb, cur, hva, _, hnc⟩ := row_get1 (i := q) (x := .int .i64 PP.2) (by have h9 := HRr.out.2; unfold InsOwn at h9; rw [HRL.out] at h9; exact h9) (by rw [List.getElem?_map, hxn]; rfl)
      subst hva
      obtain ⟨ub, hua, y0, y1, y2⟩ : ∃ ub, ua = some ⟨ub, 0, none⟩ ∧ wr.cell? ⟨ub, q * 3, none⟩ = some (.int .i64 x.f) ∧ wr.cell? ⟨ub, q * 3 + 1, none⟩ = some (.int .i64 x.t) ∧ wr.cell? ⟨ub, q * 3 + 2, none⟩ = some (.string x.b) := by
        obtain ⟨a, c, hv, _, _, hr⟩ := row_cells (cells := MsT.cells) (sz := 3) (fun _ => rfl) HRr.out.1
        rcases hr with h0 | ⟨gb, rfl, _, _, _, hc⟩
        · rw [h0] at hx; cases hx
        · have hc := hc q x hx
          simp only [Nat.zero_add] at hc
          simp only [Value.slice.injEq] at hv
          exact ⟨gb, hv.1, hc 0 _ rfl, hc 1 _ rfl, hc 2 _ rfl⟩
      subst hua
      have HNX : Hid ((L.send (l.take (q + 1))).1 = PP.1) := by show _ = _; rw [take_at hx, send_snoc, hPP]
      have HLV : Hid _ := live_any S nv' mv' gv' ys wr HIr.out.sn (by omega)
      have hlive := HOr.out.live
      by_cases hful : 256 ≤ (L.send (l.take q)).1.fl.length
      · have hP := HOr.out.full x false hful
        rw [hPP] at hP
        subst hP
        rw [hlive] at HLV
        obtain ⟨fl, hfl⟩ : ∃ z, (L.send (l.take q)).1.fl.length = z := ⟨_, rfl⟩
        rw [hfl] at HLV hful
        have hfi : (256 : Int) ≤ (fl : Int) := by omega
        have HO2 : Hid (Hon (L.send (l.take (q + 1))).1 ys) := by rw [HNX.out]; exact HOr
        clear hx hxn hPP hlive hfl hful y0 y1 y2
        go_upto_region 11 with (first
          | (go_at_call 20; refine Calls.mono HLV.out ?_; rintro e w' ⟨rfl, hw'⟩; have hw2 := hw'.symm; subst hw2)
          | fail)
        go_quiet (fail)
        go_wp2_with fail
        have hbd : Below wr.heap.size wr (wr.drewN nq) := below_drewN (Below.refl _ _) _
        have HIz : Hid (HoI At w0 (wr.drewN nq) K2 (L.send l).1 p S nv' mv' gv' ys) := HIr.out.at sv hbd
        have HRz : Hid ((wr.drewN nq).ownsRow 0 23 3 (.slice (some ⟨ub, 0, none⟩) n1 uc) l.length (l.flatMap MsT.cells) ∧ InsOwn (wr.drewN nq) 0 (.slice (some ⟨vb, 0, none⟩) n1 vc) (L.send l).2) := ⟨owns_below HRr.out.1 hbd, owns_below HRr.out.2 hbd⟩
        clear hbd
        go_roundw
        case rel => exact ⟨q + 1, nv', mv', gv', ys, by go_num, by omega, by omega, HIz, HO2, HRz, HDr⟩
        case measure => simp [intOf]; omega
      · obtain ⟨hp1, hp2⟩ := HOr.out.put x x false (by omega) (Near.refl x) (fun _ => rfl)
        rw [hPP] at hp1 hp2
        rw [hp2] at hnc
        rw [hlive] at HLV
        obtain ⟨fl, hfl⟩ : ∃ z, (L.send (l.take q)).1.fl.length = z := ⟨_, rfl⟩
        rw [hfl] at HLV hful
        have hfi : ¬ (256 : Int) ≤ (fl : Int) := by omega
        have hfd : decide ((256 : Int) ≤ (fl : Int)) = false := by simp; omega
        have hfn : decide (256 ≤ fl) = false := by simp; omega
        have HO2 : Hid (Hon (L.send (l.take (q + 1))).1 (ys ++ [(x, false)])) := by rw [HNX.out]; exact hp1
        obtain ⟨yn, hyn⟩ : ∃ z, ys.length = z := ⟨_, rfl⟩
        have hyl : ((yn : Int) + 1 == -1) = false := by simp; omega
        have HSP : Hid (∀ w', Below wr.heap.size wr w' → _) := fun w' hb => sput_ok S nv' mv' gv' ys x w' (HIr.out.sn.below hb) (by omega)
        rw [hyn] at hnc HSP hys
        have HYN : Hid (ys.length = yn) := hyn
        have HSW : Hid (∀ w', Chg wr w' (SnK S nv' mv' gv') → w'.cell? ⟨vb, q, none⟩ = some (.int .i64 ((yn : Int) + 1)) ∧ w'.cell? ⟨ub, q * 3, none⟩ = some (.int .i64 x.f) ∧ w'.cell? ⟨ub, q * 3 + 1, none⟩ = some (.int .i64 x.t) ∧ w'.cell? ⟨ub, q * 3 + 2, none⟩ = some (.string x.b)) := fun w' hc => by
          have e1 := hc.block vb ((row_block HRr.out.2 vb rfl).2) (fun e => (HDr.out vb e).2 rfl)
          have e2 := hc.block ub ((row_block HRr.out.1 ub rfl).2) (fun e => (HDr.out ub e).1 rfl)
          have k1 : ∀ {o v}, wr.cell? ⟨vb, o, none⟩ = some v → w'.cell? ⟨vb, o, none⟩ = some v := fun hv => by rw [World.cell?_of_block (w := wr) e1]; exact hv
          have k2 : ∀ {o v}, wr.cell? ⟨ub, o, none⟩ = some v → w'.cell? ⟨ub, o, none⟩ = some v := fun hv => by rw [World.cell?_of_block (w := wr) e2]; exact hv
          exact ⟨k1 hnc, k2 y0, k2 y1, k2 y2⟩
        clear hx hxn hPP hlive hfl hful hp1 hp2 hyn
        go_upto_region 11 with (first
          | (go_at_call 20; refine Calls.mono HLV.out ?_; rintro e w' ⟨rfl, hw'⟩; have hw2 := hw'.symm; subst hw2)
          | fail)
        go_region_held3 (fun w' => w'.cell? ⟨vb, q, none⟩ = some (.int .i64 ((yn : Int) + 1)) ∧ w'.cell? ⟨ub, q * 3, none⟩ = some (.int .i64 x.f) ∧ w'.cell? ⟨ub, q * 3 + 1, none⟩ = some (.int .i64 x.t) ∧ w'.cell? ⟨ub, q * 3 + 2, none⟩ = some (.string x.b))
          (first
          | (refine HSW.out _ ?_; repeat (first | exact Chg.refl _ _ | exact HC8.out | refine Chg.drw ?_))
          | go_keep)
          (first
          | (go_at_call 34
             refine (HSP.out _ (below_drew (Below.refl _ _))).mono ?_
             rintro e w8 ⟨nz, mz, gz, rfl, hse⟩
             have HC8 : Hid (Chg wr w8 (SnK S nv' mv' gv')) := ⟨hse.chg.os, hse.chg.tape, hse.chg.output, hse.chg.size, hse.chg.block⟩
             have HI8 : Hid (HoI At w0 w8 K2 (L.send l).1 p S nz mz gz (ys ++ [(x, false)])) := (HIr.out.at sv (below_drew (Below.refl _ _))).put sv hse
             have HD8 : Hid (∀ j, SnK S nz mz gz j → (Value.slice (some ⟨ub, 0, none⟩) n1 uc).ownBlock ≠ some j ∧ (Value.slice (some ⟨vb, 0, none⟩) n1 vc).ownBlock ≠ some j) := fun j hj => (hse.new j hj).elim (HDr.out j) (fun e => ⟨fun e1 => by have e2 := (row_block HRr.out.1 j e1).2; have e3 : wr.heap.size ≤ j := e; omega, fun e1 => by have e2 := (row_block HRr.out.2 j e1).2; have e3 : wr.heap.size ≤ j := e; omega⟩)
             clear hse))
        all_goals
          go_wp2_with fail
          have HRz : Hid (w8.ownsRow 0 23 3 (.slice (some ⟨ub, 0, none⟩) n1 uc) l.length (l.flatMap MsT.cells) ∧ InsOwn w8 0 (.slice (some ⟨vb, 0, none⟩) n1 vc) (L.send l).2) := ⟨row_chg HRr.out.1 HC8.out (fun j hj e => (HDr.out j e).1 hj), row_chg HRr.out.2 HC8.out (fun j hj e => (HDr.out j e).2 hj)⟩
          go_roundw
          case rel => exact ⟨q + 1, nz, mz, gz, _, by go_num, by omega, by rw [List.length_append, HYN.out]; simp; omega, HI8, HO2, HRz, HD8⟩
          case measure => simp [intOf]; omega
    · obtain rfl : q = n1 := by omega
      have hge : ¬ (q : Int) < (q : Int) := by omega
      have HTA : Hid (l.take q = l) := by show _ = _; exact List.take_of_length_le (by rw [HN1.out]; exact Nat.le_refl _)
      have HO2 : Hid (Hon (L.send l).1 ys) := by have h9 := HOr.out; rw [HTA.out] at h9; exact h9
      go_wp2_with fail
      go_ret
      rw [HLL.out]
      exact ⟨rfl, K2, _, _, _, ys, HIr.out, HO2.out, by omega⟩
end Go.Proofs.Ytfcobhgjkibdgaa
