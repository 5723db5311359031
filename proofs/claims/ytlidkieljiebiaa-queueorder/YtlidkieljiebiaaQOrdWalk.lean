/-
  QueueOrder: the walk.
-/
import Derived.Test.YtlidkieljiebiaaQOrdP
import Derived.Deep.Cut
import Derived.Deep.CutRange
import Derived.Deep.CutBlock
namespace Go.Proofs.Ytlidkieljiebiaa
open Go.RowKit
set_option linter.unusedVariables false
set_option linter.unusedSimpArgs false

set_option maxHeartbeats 12800000 in
set_option maxRecDepth 100000 in
theorem order_walk (room begin_ : Int) (v : Value) (l : List StT) (w : World) (h : StepsAt w (fun b => b < w.heap.size) v l) (hsm : ∀ x ∈ l, x.Small) (hl : l.length ≤ maxLen) :
    Calls Try.prog 3 #[.int .i64 room, .int .i64 begin_, v] w fun e w' => e = .returned (.bool true) ∧ Below w.heap.size w w' := by
  unfold maxLen at hl
  obtain ⟨a, c, rfl, hc⟩ := RowAt.form h
  obtain ⟨m, hm⟩ : ∃ m, l.length = m := ⟨_, rfl⟩
  rw [hm] at h hl ⊢
  have HM : Hid (l.length = m) := hm
  have HL : Hid (StepsAt w (fun b => b < w.heap.size) (.slice a m c) l) := h
  have HSM : Hid (∀ x ∈ l, x.Small) := hsm
  have HNUM : Hid (∀ x w, _) := fun x w => num_any x w
  have HKN : Hid (∀ w, _) := fun w => known_any w
  clear h hsm hm hc
  by_cases hz : newQ room begin_ = 0
  case neg =>
    have HN : Hid (∀ w, _) := fun w => new_no room begin_ w hz
    obtain ⟨z, hzz⟩ : ∃ z, newQ room begin_ = z := ⟨_, rfl⟩
    rw [hzz] at HN hz
    have hz' : (z == 0) = false := by simpa using hz
    have HZ : Hid (¬ z = 0) := hz
    clear hzz
    go_enter Try.func3, Try.ntmps3
    go_wp2_with fail
    refine Calls.mono (HN.out _) ?_
    rintro e w1 ⟨rfl, rfl⟩
    go_wp2_with (first
      | (go_at_call 10; refine (HNUM.out _ _).mono ?_; rintro e w3 ⟨rfl, rfl⟩))
    refine Calls.mono (HKN.out _) ?_
    rintro e w4 ⟨rfl, hb4⟩
    have HB4 : Hid _ := hb4
    clear hb4
    go_wp2_with fail
    go_ret
    exact ⟨by simp; exact HZ.out, HB4.out⟩
  obtain ⟨B, hB⟩ : ∃ B, w.heap.size = B := ⟨_, rfl⟩
  have HN1 : Hid _ := new_ok room begin_ w (fun j => B < j) (by rw [hB]; omega) hz
  have hrb : 1 ≤ room ∧ 0 ≤ begin_ := by
    unfold newQ at hz
    split at hz
    · cases hz
    · split at hz
      · cases hz
      · omega
  have HRB : Hid (1 ≤ room ∧ 0 ≤ begin_) := hrb
  rw [hB] at HN1
  have HB : Hid (w.heap.size = B) := hB
  clear hB hz hrb
  go_enter Try.func3, Try.ntmps3
  go_wp2_with fail
  refine Calls.mono HN1.out ?_
  rintro e w1 ⟨rfl, hq1, hb1⟩
  have HI1 : Hid (OrdI w B room w1 ⟨room.toNat, 0, begin_.toNat, []⟩ (.slice none 0 0)) := ⟨⟨_, hq1, fun j hj => Nat.lt_of_lt_of_le hq1.lt hj, fun k hk => by cases hk⟩, by have := HRB.out; show ((room.toNat : Nat) : Int) = room; omega, Deq.nil _ _, by rw [HB.out]; exact hb1⟩
  clear hq1 hb1 HN1
  go_wp2_with (first
    | (go_at_call 10; refine (HNUM.out _ _).mono ?_; rintro e w3 ⟨rfl, rfl⟩))
  go_loopw [9, 10] (fun sv i wr => ∃ (q : Nat) (Q : QuT) (a9 : Option Addr) (c9 : Nat), i = .int .i64 q ∧ q ≤ m ∧ sv = .slice a9 Q.l.length c9 ∧ Q.l.length ≤ c9 ∧ Hid (OrdI w B room wr Q (.slice a9 Q.l.length c9))) (fun _ i _ => m - (intOf i).toNat)
  case atStart => exact ⟨0, ⟨room.toNat, 0, begin_.toNat, []⟩, none, 0, rfl, Nat.zero_le _, rfl, Nat.zero_le _, HI1⟩
  case round =>
    obtain ⟨q, Q, a9, c9, rfl, hq, rfl, hc9, HI⟩ := hrel
    clear HI1
    obtain ⟨n, hn⟩ : ∃ n : Nat, Q.l.length = n := ⟨_, rfl⟩
    rw [hn] at HI hc9 ⊢
    have HN : Hid (Q.l.length = n) := hn
    have hn32 : n ≤ 32 := by
      obtain ⟨S, hS⟩ := HI.out.q
      rw [← hn]; have h1 := hS.q.ok.room; have h2 := hS.q.ok.fits; omega
    clear hn
    by_cases hlt : q < m ∧ q < 150
    · obtain ⟨hlt, h150⟩ := hlt
      have hqi : (q : Int) < (m : Int) := by omega
      have h150' : (q : Int) < 150 := by omega
      obtain ⟨x, hx⟩ : ∃ x, l[q]? = some x := ⟨l[q]'(by rw [HM.out]; exact hlt), List.getElem?_eq_getElem _⟩
      have HSX : Hid x.Small := HSM.out x (List.mem_of_getElem? hx)
      obtain ⟨b, o, rfl, hPb, hb, u1, u2, e1⟩ := RowAt.get (StepsAt.keep HL.out (Kp.of_below HI.out.below _)) hx
      obtain ⟨kind, on, st, cs, ps⟩ := x
      obtain ⟨x0, x1, x2, x3, x4, xc, xp⟩ := e1
      simp only at x0 x1 x2 x3 x4 xc xp
      obtain ⟨ca, cc, rfl, _⟩ := RowAt.form xc
      obtain ⟨pa, pc, rfl, _⟩ := RowAt.form xp
      obtain ⟨cn, hcn⟩ : ∃ z, cs.length = z := ⟨_, rfl⟩
      obtain ⟨pn, hpn⟩ : ∃ z, ps.length = z := ⟨_, rfl⟩
      rw [hcn] at x3 xc
      rw [hpn] at x4 xp
      have hcn1 : cn ≤ 140737488355328 := by have := HSX.out.cs.len; unfold MaxRow at this; simp only at this; omega
      have hpn1 : pn ≤ 140737488355328 := by have := HSX.out.ps.len; unfold MaxRow at this; simp only at this; omega
      have HCN : Hid (cs.length = cn ∧ ps.length = pn) := ⟨hcn, hpn⟩
      obtain ⟨W, hW⟩ : ∃ W, wr.alloc (.cells #[.int .i64 kind, .int .i64 on, .int .i64 st, .slice ca cn cc, .slice pa pn pc] 33) = W := ⟨_, rfl⟩
      have hA : W.heap[wr.heap.size]? = some (.cells #[.int .i64 kind, .int .i64 on, .int .i64 st, .slice ca cn cc, .slice pa pn pc] 33 (0, 0)) := by rw [← hW]; exact heap_alloc_new _ _
      have hbW : Below wr.heap.size wr W := by rw [← hW]; exact (Below.refl _ _).alloc (Nat.le_refl _) _
      obtain ⟨y0, y1, y2, y3, y4⟩ := cells_5 hA
      obtain ⟨g, hgz⟩ : ∃ g, wr.heap.size = g := ⟨_, rfl⟩
      have hgB : g ≠ B := by
        obtain ⟨S, hS⟩ := HI.out.q
        have := hS.q.lt
        omega
      have HGB : Hid (g ≠ B) := hgB
      have HXC : Hid (TgsAt W (fun b => b < w.heap.size) (.slice ca cn cc) cs) := TgsAt.keep xc (Kp.of_below hbW _)
      have HXP : Hid (PasAt W (fun b => b < w.heap.size) (.slice pa pn pc) ps) := PasAt.keep xp (Kp.of_below hbW _)
      have HIW : Hid (OrdI w B room W Q (.slice a9 n c9)) := HI.out.at hbW
      have HGA : Hid (W.heap[g]? = some (.cells #[.int .i64 kind, .int .i64 on, .int .i64 st, .slice ca cn cc, .slice pa pn pc] 33 (0, 0))) := by rw [← hgz]; exact hA
      have HWW : Hid (wr.alloc (.cells #[.int .i64 kind, .int .i64 on, .int .i64 st, .slice ca cn cc, .slice pa pn pc] 33) = W) := hW
      have HSZ : Hid (wr.heap.size = g) := hgz
      rw [hgz] at y0 y1 y2 y3 y4
      clear hx xc xp hcn hpn hW hA hbW hgz HSM HL hgB
      go_upto_block 2 with fail
      rw [HWW.out, HSZ.out]
      clear x0 x1 x2 x3 x4 HWW HSZ hb HI
      go_cut [9, 12, 13] from 39 to 175 (fun s9 s12 s13 wc => ∃ (Q1 : QuT) (a1 : Option Addr) (n1 c1 : Nat), s9 = .slice a1 n1 c1 ∧ n1 ≤ c1 ∧ n1 ≤ 32 ∧ Hid (Q1.l.length = n1) ∧ Hid (OrdI w B room wc Q1 (.slice a1 n1 c1)))
      case first =>
        by_cases k1 : kind = 1
        · subst k1
          obtain ⟨S0, hS0⟩ := HIW.out.q
          have HPUT : Hid _ := put_some B Q st (.slice ca cn cc) cs W S0 (fun b => b < w.heap.size) hS0.q HXC.out HSX.out.cs (by rw [HB.out]; omega) hS0.hi
          have HAP : Hid (ApartQ W S0 B Q (.slice a9 n c9)) := hS0
          obtain ⟨pz, hpz⟩ : ∃ z, Q.putC st cs = z := ⟨_, rfl⟩
          rw [hpz] at HPUT
          have HPZ : Hid (Q.putC st cs = pz) := hpz
          clear hS0 hpz
          go_wp2_with fail
          refine Calls.mono HPUT.out ?_
          rintro e w2 ⟨rfl, hno, hyes, hc2⟩
          have HG2 : Hid (w2.heap[g]? = some (.cells #[.int .i64 1, .int .i64 on, .int .i64 st, .slice ca cn cc, .slice pa pn pc] 33 (0, 0))) := by
            show w2.heap[g]? = _
            rw [hc2.block g (lt_of_blk HGA.out) HGB.out]
            exact HGA.out
          have HD2 : Hid (Deq w2 3 (.slice a9 n c9) (stV Q.l)) := HAP.out.deq HIW.out.deq hc2
          have HB2 : Hid (Below w.heap.size w w2) := chg_new HIW.out.below hc2 (by rw [HB.out]; exact Nat.le_refl _)
          have HSS : Hid (W.heap.size ≤ w2.heap.size) := hc2.size
          have HXC2 : Hid (TgsAt w2 (fun b => b < w.heap.size) (.slice ca cn cc) cs) := TgsAt.keep HXC.out (Kp.of_chg hc2 (fun j _ hj e => by have e : j = B := e; have hj : j < w.heap.size := hj; rw [HB.out] at hj; omega))
          obtain ⟨z0, z1, z2, z3, z4⟩ := cells_5 HG2.out
          clear hc2 y0 y1 y2 y3 y4 HPUT
          by_cases hp0 : pz = 0
          · subst hp0
            have HA2 : Hid (ApartQ w2 S0 B ⟨Q.room, Q.first, st.toNat, Q.l ++ [⟨st, Q.last, false, cs, []⟩]⟩ (.slice a9 n c9)) := HAP.out.chg (hyes rfl) HSS.out
            clear hno hyes
            go_wp2_with (first
              | (go_at_call 10; refine (HNUM.out _ _).mono ?_; rintro e w3 ⟨rfl, hw3⟩; subst hw3)
              | (at_builtin; refine wpList_app_int rfl _ _ rfl (.slice a9 n c9) (stV Q.l) rfl (Deq.below HD2.out ((Below.refl _ _).alloc (Nat.le_refl _) _)) w3.heap.size 1 st rfl (cells_1 (heap_alloc_new _ _)) (by rw [List.length_map, HN.out]; omega) ?_; intro v4 w4 hd4 hg4 hf4))

            obtain ⟨a1, c1, rfl, hc1, hO⟩ := ord_app HA2.out ((Below.refl _ _).alloc (Nat.le_refl _) _) hg4 hf4 hd4 (by simp [stV]) HIW.out.room HB.out HB2.out (fun k hk => (HA2.out.lo k hk).2)
            have HO : Hid _ := hO
            clear hd4 hg4 hf4 hO
            generalize (⟨Q.room, Q.first, st.toNat, Q.l ++ [⟨st, Q.last, false, cs, []⟩]⟩ : QuT) = Q1 at HO hc1 ⊢
            obtain ⟨n1, hnn⟩ : ∃ n1 : Nat, Q1.l.length = n1 := ⟨_, rfl⟩
            rw [hnn] at HO hc1 ⊢
            have HN1 : Hid (Q1.l.length = n1) := hnn
            have hn1 : n1 ≤ 32 := by
              obtain ⟨S, hS⟩ := HO.out.q
              rw [← hnn]; have h1 := hS.q.ok.room; have h2 := hS.q.ok.fits; omega
            clear hnn z0 z1 z2 z3 z4
            go_meet
            case rel => exact ⟨Q1, a1, n1, c1, rfl, hc1, hn1, HN1, HO⟩
          · have HO : Hid (OrdI w B room w2 Q (.slice a9 n c9)) := ⟨⟨S0, HAP.out.chg (hno hp0) HSS.out⟩, HIW.out.room, HD2.out, HB2.out⟩
            have hp0' : (pz == 0) = false := by simpa using hp0
            have HLA : Hid (∀ z, _) := fun z => last_some B Q (w2.drewN z) S0 ((hno hp0).below (below_drewN (Below.refl _ _) z))
            have HTG : Hid (∀ z, _) := fun z => tagged_law (.slice ca cn cc) cs (w2.drewN z) _ (TgsAt.keep HXC2.out (Kp.of_below (below_drewN (Below.refl _ _) z) _)) (by rw [HCN.out.1]; exact hcn1)
            obtain ⟨la, hla⟩ : ∃ la : Nat, Q.last = la := ⟨_, rfl⟩
            obtain ⟨tgl, htgl⟩ : ∃ t, tagless cs = t := ⟨_, rfl⟩
            have hcase := put_no (by rw [HPZ.out]; exact hp0)
            rw [hla] at HLA hcase
            rw [htgl] at HTG hcase
            rw [HCN.out.1, HN.out] at hcase
            have hroom := HIW.out.room
            clear hno hyes hp0 hla htgl
            rcases hcase with h1 | ⟨h1, h2⟩ | ⟨h1, h2, h3⟩ | ⟨h1, h2, h3, h4⟩ | ⟨h1, h2, h3, h4, h5⟩
            · have d1 : ¬ (la : Int) < st := by omega
              have d2 : decide ((la : Int) < st) = false := by simpa using d1
              clear h1
              clear hroom
              go_wp2_with (first | (go_at_call 10; refine (HNUM.out _ _).mono ?_; rintro e w3 ⟨rfl, hw3⟩; subst hw3))
              go_quiet (first | (go_at_call 13; refine (HLA.out _).mono fun _ _ h => ⟨h.1, _, h.2⟩) | (go_at_call 14; refine (HTG.out _).mono fun _ _ h => ⟨h.1, _, h.2⟩) | fail)
              go_wp2_with fail
              obtain ⟨wq, hwq⟩ : ∃ wq, w3.drewN nq = wq := ⟨_, rfl⟩
              have HO : Hid (OrdI w B room wq Q (.slice a9 n c9)) := by show OrdI _ _ _ _ _ _; rw [← hwq]; exact HO.out.at (below_drewN (Below.refl _ _) _)
              rw [hwq]
              clear hwq z0 z1 z2 z3 z4
              go_meet
              case rel => exact ⟨Q, a9, n, c9, rfl, hc9, hn32, HN, HO⟩
            · subst h2
              have d2 : decide ((la : Int) < st) = true := by simpa using h1
              clear hroom
              go_wp2_with (first | (go_at_call 10; refine (HNUM.out _ _).mono ?_; rintro e w3 ⟨rfl, hw3⟩; subst hw3))
              go_quiet (first | (go_at_call 13; refine (HLA.out _).mono fun _ _ h => ⟨h.1, _, h.2⟩) | (go_at_call 14; refine (HTG.out _).mono fun _ _ h => ⟨h.1, _, h.2⟩) | fail)
              go_wp2_with fail
              obtain ⟨wq, hwq⟩ : ∃ wq, w3.drewN nq = wq := ⟨_, rfl⟩
              have HO : Hid (OrdI w B room wq Q (.slice a9 n c9)) := by show OrdI _ _ _ _ _ _; rw [← hwq]; exact HO.out.at (below_drewN (Below.refl _ _) _)
              rw [hwq]
              clear hwq z0 z1 z2 z3 z4
              go_meet
              case rel => exact ⟨Q, a9, n, c9, rfl, hc9, hn32, HN, HO⟩
            · have d2 : decide ((la : Int) < st) = true := by simpa using h1
              have d3 : (0 : Int) < (cn : Int) := by omega
              have d3' : decide ((0 : Int) < (cn : Int)) = true := by simpa using d3
              have d3n : 0 < cn := by omega
              have d3m : decide (0 < cn) = true := by simpa using d3n
              have d4 : ¬ st ≤ 2147483647 := by omega
              have d4' : decide (st ≤ 2147483647) = false := by simpa using d4
              clear h2 h3
              clear hroom
              go_wp2_with (first | (go_at_call 10; refine (HNUM.out _ _).mono ?_; rintro e w3 ⟨rfl, hw3⟩; subst hw3))
              go_quiet (first | (go_at_call 13; refine (HLA.out _).mono fun _ _ h => ⟨h.1, _, h.2⟩) | (go_at_call 14; refine (HTG.out _).mono fun _ _ h => ⟨h.1, _, h.2⟩) | fail)
              go_wp2_with fail
              obtain ⟨wq, hwq⟩ : ∃ wq, w3.drewN nq = wq := ⟨_, rfl⟩
              have HO : Hid (OrdI w B room wq Q (.slice a9 n c9)) := by show OrdI _ _ _ _ _ _; rw [← hwq]; exact HO.out.at (below_drewN (Below.refl _ _) _)
              rw [hwq]
              clear hwq z0 z1 z2 z3 z4
              go_meet
              case rel => exact ⟨Q, a9, n, c9, rfl, hc9, hn32, HN, HO⟩
            · have d2 : decide ((la : Int) < st) = true := by simpa using h1
              have d3 : (0 : Int) < (cn : Int) := by omega
              have d3' : decide ((0 : Int) < (cn : Int)) = true := by simpa using d3
              have d3n : 0 < cn := by omega
              have d3m : decide (0 < cn) = true := by simpa using d3n
              have d4' : decide (st ≤ 2147483647) = true := by simpa using h3
              have d5 : ¬ (n : Int) < room := by rw [← hroom]; omega
              have d5' : decide ((n : Int) < room) = false := by simpa using d5
              clear h2 h4
              clear hroom
              go_wp2_with (first | (go_at_call 10; refine (HNUM.out _ _).mono ?_; rintro e w3 ⟨rfl, hw3⟩; subst hw3))
              go_quiet (first | (go_at_call 13; refine (HLA.out _).mono fun _ _ h => ⟨h.1, _, h.2⟩) | (go_at_call 14; refine (HTG.out _).mono fun _ _ h => ⟨h.1, _, h.2⟩) | fail)
              go_wp2_with fail
              obtain ⟨wq, hwq⟩ : ∃ wq, w3.drewN nq = wq := ⟨_, rfl⟩
              have HO : Hid (OrdI w B room wq Q (.slice a9 n c9)) := by show OrdI _ _ _ _ _ _; rw [← hwq]; exact HO.out.at (below_drewN (Below.refl _ _) _)
              rw [hwq]
              clear hwq z0 z1 z2 z3 z4
              go_meet
              case rel => exact ⟨Q, a9, n, c9, rfl, hc9, hn32, HN, HO⟩
            · subst h5
              have d2 : decide ((la : Int) < st) = true := by simpa using h1
              have d3 : (0 : Int) < (cn : Int) := by omega
              have d3' : decide ((0 : Int) < (cn : Int)) = true := by simpa using d3
              have d3n : 0 < cn := by omega
              have d3m : decide (0 < cn) = true := by simpa using d3n
              have d4' : decide (st ≤ 2147483647) = true := by simpa using h3
              have d5 : (n : Int) < room := by obtain ⟨S9, hS9⟩ := HO.out.q; have := hS9.q.ok.fits; rw [HN.out] at this; rw [← hroom]; omega
              have d5' : decide ((n : Int) < room) = true := by simpa using d5
              clear h2 h4
              clear hroom
              go_wp2_with (first | (go_at_call 10; refine (HNUM.out _ _).mono ?_; rintro e w3 ⟨rfl, hw3⟩; subst hw3))
              go_quiet (first | (go_at_call 13; refine (HLA.out _).mono fun _ _ h => ⟨h.1, _, h.2⟩) | (go_at_call 14; refine (HTG.out _).mono fun _ _ h => ⟨h.1, _, h.2⟩) | fail)
              go_wp2_with fail
              obtain ⟨wq, hwq⟩ : ∃ wq, w3.drewN nq = wq := ⟨_, rfl⟩
              have HO : Hid (OrdI w B room wq Q (.slice a9 n c9)) := by show OrdI _ _ _ _ _ _; rw [← hwq]; exact HO.out.at (below_drewN (Below.refl _ _) _)
              rw [hwq]
              clear hwq z0 z1 z2 z3 z4
              go_meet
              case rel => exact ⟨Q, a9, n, c9, rfl, hc9, hn32, HN, HO⟩
        · by_cases k2 : kind = 2
          · subst k2
            obtain ⟨S0, hS0⟩ := HIW.out.q
            have HCOL : Hid _ := coll_some B Q st (.slice pa pn pc) ps W S0 (fun b => b < w.heap.size) hS0.q HXP.out HSX.out.ps (by rw [HB.out]; omega) hS0.hi
            have HAP : Hid (ApartQ W S0 B Q (.slice a9 n c9)) := hS0
            obtain ⟨pz, hpz⟩ : ∃ z, Q.collC st ps = z := ⟨_, rfl⟩
            rw [hpz] at HCOL
            have HPZ : Hid (Q.collC st ps = pz) := hpz
            clear hS0 hpz
            go_wp2_with fail
            refine Calls.mono HCOL.out ?_
            rintro e w2 ⟨rfl, hno, hyes, hc2⟩
            have HG2 : Hid (w2.heap[g]? = some (.cells #[.int .i64 2, .int .i64 on, .int .i64 st, .slice ca cn cc, .slice pa pn pc] 33 (0, 0))) := by
              show w2.heap[g]? = _
              rw [hc2.block g (lt_of_blk HGA.out) HGB.out]
              exact HGA.out
            have HD2 : Hid (Deq w2 3 (.slice a9 n c9) (stV Q.l)) := HAP.out.deq HIW.out.deq hc2
            have HB2 : Hid (Below w.heap.size w w2) := chg_new HIW.out.below hc2 (by rw [HB.out]; exact Nat.le_refl _)
            have HSS : Hid (W.heap.size ≤ w2.heap.size) := hc2.size
            have HXC2 : Hid (TgsAt w2 (fun b => b < w.heap.size) (.slice ca cn cc) cs) := TgsAt.keep HXC.out (Kp.of_chg hc2 (fun j _ hj e => by have e : j = B := e; have hj : j < w.heap.size := hj; rw [HB.out] at hj; omega))
            obtain ⟨z0, z1, z2, z3, z4⟩ := cells_5 HG2.out
            clear hc2 y0 y1 y2 y3 y4 HCOL
            by_cases hp0 : pz = 0
            · subst hp0
              obtain ⟨f, hqf⟩ := hyes rfl
              have HA2 : Hid (ApartQ w2 S0 B ⟨Q.room, f, st.toNat, [⟨st, Q.begin, true, [], ps⟩]⟩ (.slice a9 n c9)) := HAP.out.chg hqf HSS.out
              clear hno hyes hqf
              go_wp2_with (first | (go_at_call 10; refine (HNUM.out _ _).mono ?_; rintro e w3 ⟨rfl, hw3⟩; subst hw3))

              have hbn : Below w3.heap.size w3 (w3.alloc (.cells #[.int .i64 st] 3)) := (Below.refl _ _).alloc (Nat.le_refl _) _
              have HO : Hid (OrdI w B room (w3.alloc (.cells #[.int .i64 st] 3)) ⟨Q.room, f, st.toNat, [⟨st, Q.begin, true, [], ps⟩]⟩ (.slice (some ⟨w3.heap.size, 0, none⟩) 1 1)) := ⟨HA2.out.fresh hbn (fun k hk => by cases hk; exact ⟨Nat.le_refl _, by simp⟩), HIW.out.room, Deq.one _, trans2 HB2.out hbn⟩
              have HN1 : Hid ((⟨Q.room, f, st.toNat, [⟨st, Q.begin, true, [], ps⟩]⟩ : QuT).l.length = 1) := rfl
              generalize (⟨Q.room, f, st.toNat, [⟨st, Q.begin, true, [], ps⟩]⟩ : QuT) = Q1 at *
              have hn1 : 1 ≤ 32 := by decide
              have hc1 : 1 ≤ 1 := by decide
              go_meet
              case rel => exact ⟨Q1, (some ⟨w3.heap.size, 0, none⟩), 1, 1, rfl, hc1, hn1, HN1, HO⟩
            · have HO : Hid (OrdI w B room w2 Q (.slice a9 n c9)) := ⟨⟨S0, HAP.out.chg (hno hp0) HSS.out⟩, HIW.out.room, HD2.out, HB2.out⟩
              have hp0' : (pz == 0) = false := by simpa using hp0
              have HLA : Hid (∀ z, _) := fun z => last_some B Q (w2.drewN z) S0 ((hno hp0).below (below_drewN (Below.refl _ _) z))
              obtain ⟨la, hla⟩ : ∃ la : Nat, Q.last = la := ⟨_, rfl⟩
              have hroom := HIW.out.room
              have hcase := coll_no (by rw [HPZ.out]; exact hp0) (by have := HRB.out; omega)
              rw [hla] at HLA hcase
              rw [HCN.out.2] at hcase
              clear hno hyes hp0 hla
              rcases hcase with h1 | ⟨h1, h2⟩ | ⟨h1, h2, h3⟩
              · have d1 : ¬ (la : Int) < st := by omega
                have d2 : decide ((la : Int) < st) = false := by simpa using d1
                clear h1
                clear hroom
                go_wp2_with (first | (go_at_call 10; refine (HNUM.out _ _).mono ?_; rintro e w3 ⟨rfl, hw3⟩; subst hw3))
                go_quiet (first | (go_at_call 13; refine (HLA.out _).mono fun _ _ h => ⟨h.1, _, h.2⟩) | (go_at_call 14; refine (HTG.out _).mono fun _ _ h => ⟨h.1, _, h.2⟩) | fail)
                go_wp2_with fail
                obtain ⟨wq, hwq⟩ : ∃ wq, w3.drewN nq = wq := ⟨_, rfl⟩
                have HO : Hid (OrdI w B room wq Q (.slice a9 n c9)) := by show OrdI _ _ _ _ _ _; rw [← hwq]; exact HO.out.at (below_drewN (Below.refl _ _) _)
                rw [hwq]
                clear hwq z0 z1 z2 z3 z4
                go_meet
                case rel => exact ⟨Q, a9, n, c9, rfl, hc9, hn32, HN, HO⟩
              · subst h2
                have d2 : decide ((la : Int) < st) = true := by simpa using h1
                clear hroom
                go_wp2_with (first | (go_at_call 10; refine (HNUM.out _ _).mono ?_; rintro e w3 ⟨rfl, hw3⟩; subst hw3))
                go_quiet (first | (go_at_call 13; refine (HLA.out _).mono fun _ _ h => ⟨h.1, _, h.2⟩) | (go_at_call 14; refine (HTG.out _).mono fun _ _ h => ⟨h.1, _, h.2⟩) | fail)
                go_wp2_with fail
                obtain ⟨wq, hwq⟩ : ∃ wq, w3.drewN nq = wq := ⟨_, rfl⟩
                have HO : Hid (OrdI w B room wq Q (.slice a9 n c9)) := by show OrdI _ _ _ _ _ _; rw [← hwq]; exact HO.out.at (below_drewN (Below.refl _ _) _)
                rw [hwq]
                clear hwq z0 z1 z2 z3 z4
                go_meet
                case rel => exact ⟨Q, a9, n, c9, rfl, hc9, hn32, HN, HO⟩
              · have d2 : decide ((la : Int) < st) = true := by simpa using h1
                have d3 : (0 : Int) < (pn : Int) := by omega
                have d3' : decide ((0 : Int) < (pn : Int)) = true := by simpa using d3
                have d3n : 0 < pn := by omega
                have d3m : decide (0 < pn) = true := by simpa using d3n
                have d4 : ¬ st ≤ 2147483647 := by omega
                have d4' : decide (st ≤ 2147483647) = false := by simpa using d4
                clear h2 h3
                clear hroom
                go_wp2_with (first | (go_at_call 10; refine (HNUM.out _ _).mono ?_; rintro e w3 ⟨rfl, hw3⟩; subst hw3))
                go_quiet (first | (go_at_call 13; refine (HLA.out _).mono fun _ _ h => ⟨h.1, _, h.2⟩) | (go_at_call 14; refine (HTG.out _).mono fun _ _ h => ⟨h.1, _, h.2⟩) | fail)
                go_wp2_with fail
                obtain ⟨wq, hwq⟩ : ∃ wq, w3.drewN nq = wq := ⟨_, rfl⟩
                have HO : Hid (OrdI w B room wq Q (.slice a9 n c9)) := by show OrdI _ _ _ _ _ _; rw [← hwq]; exact HO.out.at (below_drewN (Below.refl _ _) _)
                rw [hwq]
                clear hwq z0 z1 z2 z3 z4
                go_meet
                case rel => exact ⟨Q, a9, n, c9, rfl, hc9, hn32, HN, HO⟩
          · by_cases k4 : kind = 4
            · subst k4
              obtain ⟨S0, hS0⟩ := HIW.out.q
              have HTOO : Hid _ := took_some B Q st W S0 hS0.q
              have HAP : Hid (ApartQ W S0 B Q (.slice a9 n c9)) := hS0
              obtain ⟨tk, htk⟩ : ∃ z, tookN Q.l st = z := ⟨_, rfl⟩
              rw [htk] at HTOO
              have HTK : Hid (tookN Q.l st = tk) := htk
              clear hS0 htk
              go_wp2_with fail
              refine Calls.mono HTOO.out ?_
              rintro e w2 ⟨rfl, ⟨f, hq2⟩, hc2⟩
              have HG2 : Hid (w2.heap[g]? = some (.cells #[.int .i64 4, .int .i64 on, .int .i64 st, .slice ca cn cc, .slice pa pn pc] 33 (0, 0))) := by
                show w2.heap[g]? = _
                rw [hc2.block g (lt_of_blk HGA.out) HGB.out]
                exact HGA.out
              have HD2 : Hid (Deq w2 3 (.slice a9 n c9) (stV Q.l)) := HAP.out.deq HIW.out.deq hc2
              have HB2 : Hid (Below w.heap.size w w2) := chg_new HIW.out.below hc2 (by rw [HB.out]; exact Nat.le_refl _)
              have HSS : Hid (W.heap.size ≤ w2.heap.size) := hc2.size
              have HXC2 : Hid (TgsAt w2 (fun b => b < w.heap.size) (.slice ca cn cc) cs) := TgsAt.keep HXC.out (Kp.of_chg hc2 (fun j _ hj e => by have e : j = B := e; have hj : j < w.heap.size := hj; rw [HB.out] at hj; omega))
              obtain ⟨z0, z1, z2, z3, z4⟩ := cells_5 HG2.out
              have HA2 : Hid (ApartQ w2 S0 B ⟨Q.room, f, Q.last, Q.l.drop tk⟩ (.slice a9 n c9)) := HAP.out.chg hq2 hc2.size
              clear hc2 hq2 y0 y1 y2 y3 y4 HTOO z0 z1 z3 z4
              go_wp2_with fail
              rcases (show (a9 = none ∧ n = 0 ∧ c9 = 0) ∨ ∃ sb so, a9 = some ⟨sb, so, none⟩ from by
                  rcases HD2.out with ⟨hv, _⟩ | ⟨g', off, cap, cur, hv, _⟩
                  · cases hv; exact .inl ⟨rfl, rfl, rfl⟩
                  · cases hv; exact .inr ⟨_, _, rfl⟩) with ⟨rfl, rfl, rfl⟩ | ⟨sb, so, rfl⟩
              · have HJK : Hid (0 = tk) := by show _ = _; rw [← HTK.out]; exact (tookN_eq (q := 0) (Nat.zero_le _) (fun i t hi => absurd hi (Nat.not_lt_zero _)) (fun t' ht' => by rw [List.getElem?_eq_none (by rw [HN.out]; exact Nat.zero_le _)] at ht'; cases ht')).symm
                go_loopw [13] (fun k wk => k = .int .i64 0 ∧ wk = w2) (fun _ _ => 0)
                case atStart => exact ⟨rfl, rfl⟩
                case round =>
                  obtain ⟨rfl, hw⟩ := hrel
                  subst hw
                  go_wp2_with fail
                  go_quiet (fail)
                  obtain rfl := HJK.out
                  go_wp2_with fail
                  have HO : Hid (OrdI w B room (wr.drewN nq) ⟨Q.room, f, Q.last, Q.l.drop 0⟩ (.slice none 0 0)) := OrdI.at (w := wr) ⟨⟨S0, HA2.out.same rfl⟩, HIW.out.room, by rw [List.drop_zero]; exact HD2.out, HB2.out⟩ (below_drewN (Below.refl _ _) _)
                  have HN1 : Hid ((⟨Q.room, f, Q.last, Q.l.drop 0⟩ : QuT).l.length = 0) := by show (Q.l.drop 0).length = 0; rw [List.drop_zero]; exact HN.out
                  have hc1 : 0 ≤ 0 := by omega
                  have hn1 : 0 ≤ 32 := by omega
                  clear HA2 HAP HD2 HTK HB2 HXC2
                  generalize (⟨Q.room, f, Q.last, Q.l.drop 0⟩ : QuT) = Q1 at HO HN1
                  generalize wr.drewN nq = wq at HO ⊢
                  go_meet
                  case rel => exact ⟨Q1, none, 0, 0, rfl, hc1, hn1, HN1, HO⟩
              · go_loopw [13] (fun k wk => ∃ j : Nat, k = .int .i64 j ∧ j ≤ n ∧ Hid (∀ i t, i < j → Q.l[i]? = some t → t.st ≤ st) ∧ Hid (∃ z, wk = w2.drewN z)) (fun k _ => n - (intOf k).toNat)
                case atStart => exact ⟨0, rfl, Nat.zero_le _, fun i t hi => absurd hi (Nat.not_lt_zero _), ⟨0, rfl⟩⟩
                case round =>
                  obtain ⟨j, rfl, hj, HT, ⟨z, hz⟩⟩ := hrel
                  subst hz
                  by_cases hjl : j < n
                  · have hji : (j : Int) < (n : Int) := by omega
                    obtain ⟨t, ht⟩ : ∃ t, Q.l[j]? = some t := ⟨Q.l[j]'(by rw [HN.out]; exact hjl), List.getElem?_eq_getElem _⟩
                    obtain ⟨sb', so', hso, _, s1⟩ := Deq.get HD2.out (x := .int .i64 t.st) (j := j) (by rw [List.getElem?_map, ht]; rfl)
                    cases hso
                    by_cases hts : t.st ≤ st
                    · have dts : decide (t.st ≤ st) = true := by simpa using hts
                      have HT2 : Hid (∀ i t, i < j + 1 → Q.l[i]? = some t → t.st ≤ st) := fun i t' hi hit => by
                        by_cases he : i = j
                        · subst he
                          rw [ht] at hit
                          cases hit
                          exact hts
                        · exact HT.out i t' (by omega) hit
                      clear ht
                      go_wp2_with fail
                      go_quiet (fail)
                      go_wp2_with fail
                      go_roundw
                      case rel => exact ⟨j + 1, by go_num, by omega, HT2, ⟨_, rfl⟩⟩
                      case measure => simp [intOf]; omega
                    · have dts : decide (t.st ≤ st) = false := by simpa using hts
                      have HJK : Hid (j = tk) := by show _ = _; rw [← HTK.out]; exact (tookN_eq (by rw [HN.out]; omega) HT.out (fun t' ht' => by rw [ht] at ht'; cases ht'; exact hts)).symm
                      clear ht
                      go_wp2_with fail
                      go_quiet (fail)
                      obtain rfl := HJK.out
                      go_wp2_with fail
                      have HO : Hid (OrdI w B room (w2.drewN (z + nq)) ⟨Q.room, f, Q.last, Q.l.drop j⟩ (.slice (some ⟨sb, so + j, none⟩) (n - j) (c9 - j))) := OrdI.at (w := w2) ⟨⟨S0, HA2.out.same rfl⟩, HIW.out.room, by have := Deq.drop HD2.out (k := j) (by rw [List.length_map, HN.out]; exact hj); rw [← List.map_drop] at this; exact this, HB2.out⟩ (below_drewN (Below.refl _ _) _)
                      have HN1 : Hid ((⟨Q.room, f, Q.last, Q.l.drop j⟩ : QuT).l.length = n - j) := by show (Q.l.drop j).length = n - j; rw [List.length_drop, HN.out]
                      have hc1 : n - j ≤ c9 - j := by omega
                      have hn1 : n - j ≤ 32 := by omega
                      clear HA2 HAP HD2 HTK HB2 HXC2
                      generalize (⟨Q.room, f, Q.last, Q.l.drop j⟩ : QuT) = Q1 at HO HN1
                      generalize w2.drewN (z + nq) = wq at HO ⊢
                      generalize n - j = n1 at HO HN1 hc1 hn1 ⊢
                      generalize c9 - j = c1 at HO hc1 ⊢
                      generalize so + j = so1 at HO ⊢
                      go_meet
                      case rel => exact ⟨Q1, (some ⟨sb, so1, none⟩), n1, c1, rfl, hc1, hn1, HN1, HO⟩
                  · have hge : ¬ (j : Int) < (n : Int) := by omega
                    have HJK : Hid (j = tk) := by show _ = _; rw [← HTK.out]; exact (tookN_eq (by rw [HN.out]; omega) HT.out (fun t' ht' => by rw [List.getElem?_eq_none (by rw [HN.out]; omega)] at ht'; cases ht')).symm
                    by_cases hcj : c9 = j
                    · obtain rfl : n = j := by omega
                      subst hcj
                      go_wp2_with fail
                      go_quiet (fail)
                      obtain rfl := HJK.out
                      go_wp2_with fail
                      have hdn : Q.l.drop c9 = [] := List.drop_of_length_le (by rw [HN.out]; exact Nat.le_refl _)
                      have HO : Hid (OrdI w B room (w2.drewN (z + nq)) ⟨Q.room, f, Q.last, Q.l.drop c9⟩ (.slice (some ⟨sb, so, none⟩) 0 0)) := OrdI.at (w := w2) ⟨⟨S0, HA2.out.same rfl⟩, HIW.out.room, by show Deq w2 3 _ (stV (Q.l.drop c9)); rw [hdn]; exact Deq.none_of HD2.out, HB2.out⟩ (below_drewN (Below.refl _ _) _)
                      have HN1 : Hid ((⟨Q.room, f, Q.last, Q.l.drop c9⟩ : QuT).l.length = 0) := by show (Q.l.drop c9).length = 0; rw [hdn]; rfl
                      have hc1 : 0 ≤ 0 := by omega
                      have hn1 : 0 ≤ 32 := by omega
                      clear HA2 HAP HD2 HTK HB2 HXC2 hdn
                      generalize (⟨Q.room, f, Q.last, Q.l.drop c9⟩ : QuT) = Q1 at HO HN1
                      generalize w2.drewN (z + nq) = wq at HO ⊢
                      go_meet
                      case rel => exact ⟨Q1, (some ⟨sb, so, none⟩), 0, 0, rfl, hc1, hn1, HN1, HO⟩
                    go_wp2_with fail
                    go_quiet (fail)
                    obtain rfl := HJK.out
                    go_wp2_with fail
                    have HO : Hid (OrdI w B room (w2.drewN (z + nq)) ⟨Q.room, f, Q.last, Q.l.drop j⟩ (.slice (some ⟨sb, so + j, none⟩) (n - j) (c9 - j))) := OrdI.at (w := w2) ⟨⟨S0, HA2.out.same rfl⟩, HIW.out.room, by have := Deq.drop HD2.out (k := j) (by rw [List.length_map, HN.out]; exact hj); rw [← List.map_drop] at this; exact this, HB2.out⟩ (below_drewN (Below.refl _ _) _)
                    have HN1 : Hid ((⟨Q.room, f, Q.last, Q.l.drop j⟩ : QuT).l.length = n - j) := by show (Q.l.drop j).length = n - j; rw [List.length_drop, HN.out]
                    have hc1 : n - j ≤ c9 - j := by omega
                    have hn1 : n - j ≤ 32 := by omega
                    clear HA2 HAP HD2 HTK HB2 HXC2
                    generalize (⟨Q.room, f, Q.last, Q.l.drop j⟩ : QuT) = Q1 at HO HN1
                    generalize w2.drewN (z + nq) = wq at HO ⊢
                    generalize n - j = n1 at HO HN1 hc1 hn1 ⊢
                    generalize c9 - j = c1 at HO hc1 ⊢
                    generalize so + j = so1 at HO ⊢
                    go_meet
                    case rel => exact ⟨Q1, (some ⟨sb, so1, none⟩), n1, c1, rfl, hc1, hn1, HN1, HO⟩
            · have d1 : (kind == 1) = false := by simpa using k1
              have d2 : (kind == 2) = false := by simpa using k2
              have d4 : (kind == 4) = false := by simpa using k4
              have HO : Hid (OrdI w B room W Q (.slice a9 n c9)) := HIW.out
              clear k1 k2 k4
              go_wp2_with fail
              go_meet
              case rel => exact ⟨Q, a9, n, c9, rfl, hc9, hn32, HN, HO⟩
      case rest =>
        obtain ⟨Q1, a1, n1, c1, rfl, hc1, hn1, HN1, HO⟩ := hcut
        go_wp2_with fail
        obtain ⟨S9, hS9⟩ := HO.out.q
        refine Calls.mono (next_some B Q1 99 _ S9 hS9.q) ?_
        rintro e w8 ⟨v8, rfl, hv8, hq8, hc8⟩
        rw [nextN_all (by rw [HN1.out]; exact hn1)] at hv8
        obtain ⟨a8, c8, rfl, hn8⟩ := RowAt.form hv8
        rw [HN1.out] at hv8 hn8
        rw [HN1.out]
        have HV8 : Hid (ItsAt w8 (NewIn wc) (.slice a8 n1 c8) Q1.l) := hv8
        have HO8 : Hid (OrdI w B room w8 Q1 (.slice a1 n1 c1)) := ⟨⟨S9, hS9.chg hq8 hc8.size⟩, HO.out.room, hS9.deq HO.out.deq hc8, chg_new HO.out.below hc8 (by rw [HB.out]; exact Nat.le_refl _)⟩
        clear hv8 hq8 hc8 hS9 S9 HO
        go_wp2_with fail
        obtain ⟨qo, hqo⟩ : ∃ qo, q = qo := ⟨_, rfl⟩
        rw [hqo] at hlt hqi ⊢
        have HLT : Hid (qo < m) := hlt
        have HQO : Hid (q = qo) := hqo
        clear hqo HIW
        go_loopw [15] (fun k wk => ∃ j : Nat, k = .int .i64 j ∧ j ≤ n1 ∧ Hid (∃ z, wk = w8.drewN z)) (fun k _ => n1 - (intOf k).toNat)
        case atStart => exact ⟨0, rfl, Nat.zero_le _, ⟨0, rfl⟩⟩
        case round =>
          obtain ⟨j, rfl, hj, ⟨z, hz⟩⟩ := hrel
          subst hz
          by_cases hjl : j < n1
          · have hji : (j : Int) < (n1 : Int) := by omega
            obtain ⟨t, ht⟩ : ∃ t, Q1.l[j]? = some t := ⟨Q1.l[j]'(by rw [HN1.out]; exact hjl), List.getElem?_eq_getElem _⟩
            obtain ⟨tb, tof, rfl, _, _, t1, t2, e1⟩ := RowAt.get HV8.out ht
            have s0 := e1.st
            obtain ⟨sb, so, rfl, _, s1⟩ := Deq.get HO8.out.deq (x := .int .i64 t.st) (j := j) (by rw [List.getElem?_map, ht]; rfl)
            clear ht e1
            go_wp2_with fail
            go_quiet (fail)
            go_wp2_with fail
            go_roundw
            case rel => exact ⟨j + 1, by go_num, by omega, ⟨_, rfl⟩⟩
            case measure => simp [intOf]; omega
          · obtain rfl : j = n1 := by omega
            have hge : ¬ (j : Int) < (j : Int) := by omega
            go_wp2_with fail
            go_roundw
            case rel => exact ⟨qo + 1, Q1, a1, c1, by go_num, by have := HLT.out; omega, by rw [HN1.out], by rw [HN1.out]; exact hc1, by rw [HN1.out]; exact HO8.out.at (below_drewN (Below.refl _ _) z)⟩
            case measure => have := HLT.out; have := HQO.out; simp [intOf]; omega
    · have hge : ¬ ((q : Int) < (m : Int) ∧ (q : Int) < 150) := by omega
      have HB3 : Hid (Below w.heap.size w wr) := HI.out.below
      by_cases hqm : q < m
      · have hqm' : (q : Int) < (m : Int) := by omega
        have h150 : ¬ (q : Int) < 150 := by omega
        clear hge hlt
        go_wp2_with fail
        refine Calls.mono (HKN.out _) ?_
        rintro e w4 ⟨rfl, hb4⟩
        have HB4 : Hid (Below w.heap.size w w4) := trans2 HB3.out hb4
        clear hb4
        go_wp2_with fail
        go_ret
        exact ⟨rfl, HB4.out⟩
      · have hqm' : ¬ (q : Int) < (m : Int) := by omega
        clear hge hlt
        go_wp2_with fail
        refine Calls.mono (HKN.out _) ?_
        rintro e w4 ⟨rfl, hb4⟩
        have HB4 : Hid (Below w.heap.size w w4) := trans2 HB3.out hb4
        clear hb4
        go_wp2_with fail
        go_ret
        exact ⟨rfl, HB4.out⟩
end Go.Proofs.Ytlidkieljiebiaa
