/-
  QueueReader: the walk.
-/
import Derived.Test.YtlidkieljiebiaaQRdP
import Derived.Deep.Cut
import Derived.Deep.CutRange
import Derived.Deep.CutBlock
namespace Go.Proofs.Ytlidkieljiebiaa
open Go.RowKit
set_option linter.unusedVariables false
set_option linter.unusedSimpArgs false

/-- Between two rounds. -/
structure RdI (w0 : World) (B : Nat) (w : World) (Q : QuT) (vp vb : Value) (P : List Int) (L : List (Value × List ItT)) : Prop where
  m : ∃ S, RdM w S B Q vp vb P L
  p : RdP Q.last P Q.l (L.map (·.2))
  below : Below w0.heap.size w0 w
theorem RdI.at {w0 w w' : World} {B : Nat} {Q : QuT} {vp vb : Value} {P : List Int} {L : List (Value × List ItT)} (h : RdI w0 B w Q vp vb P L) (hb : Below w.heap.size w w') : RdI w0 B w' Q vp vb P L := by
  obtain ⟨S, hS⟩ := h.m
  exact ⟨⟨S, hS.below hb⟩, h.p, trans2 h.below hb⟩
theorem grown_below {w0 w w' : World} {v : Value} {B : Nat} (h : Below w0.heap.size w0 w) (hg : w.grownBy w' v.ownBlock) (hB : w0.heap.size = B) (hv : ∀ k, v.ownBlock = some k → B < k) : Below w0.heap.size w0 w' := by
  have hc2 := Chg.grown hg
  exact ⟨hc2.os.trans h.os, hc2.tape.trans h.tape, hc2.output.trans h.output, Nat.le_trans h.size hc2.size, fun k hk => (hc2.block k (Nat.lt_of_lt_of_le hk h.size) (fun e => by have := hv k e; omega)).trans (h.block k hk)⟩
set_option maxHeartbeats 12800000 in
set_option maxRecDepth 100000 in
theorem reader_walk (room begin_ : Int) (v vt : Value) (l : List StT) (T : List TkT) (w : World) (hT : TakesAt w (fun b => b < w.heap.size) vt T) (hTl : T.length ≤ maxLen) (h : StepsAt w (fun b => b < w.heap.size) v l) (hsm : ∀ x ∈ l, x.Small) (hl : l.length ≤ maxLen) :
    Calls Try.prog 4 #[.int .i64 room, .int .i64 begin_, v, vt] w fun e w' => e = .returned (.bool true) ∧ Below w.heap.size w w' := by
  unfold maxLen at hl hTl
  obtain ⟨ta, tc, rfl, _⟩ := RowAt.form hT
  obtain ⟨nT, hnT⟩ : ∃ m, T.length = m := ⟨_, rfl⟩
  rw [hnT] at hT hTl ⊢
  have HNT : Hid (T.length = nT) := hnT
  have HTA : Hid (TakesAt w (fun b => b < w.heap.size) (.slice ta nT tc) T) := hT
  clear hT hnT
  obtain ⟨a, c, rfl, hc⟩ := RowAt.form h
  obtain ⟨m, hm⟩ : ∃ m, l.length = m := ⟨_, rfl⟩
  rw [hm] at h hl ⊢
  have HM : Hid (l.length = m) := hm
  have HL : Hid (StepsAt w (fun b => b < w.heap.size) (.slice a m c) l) := h
  have HSM : Hid (∀ x ∈ l, x.Small) := hsm
  have HNUM : Hid (∀ x w, _) := fun x w => num_any x w
  have HKN : Hid (∀ w, _) := fun w => known_any w
  clear h hsm hm hc
  by_cases hz : newQ room begin_ = 0
  case neg =>
    have HN : Hid (∀ w, _) := fun w => new_no room begin_ w hz
    obtain ⟨z, hzz⟩ : ∃ z, newQ room begin_ = z := ⟨_, rfl⟩
    rw [hzz] at HN hz
    have hz' : (z == 0) = false := by simpa using hz
    have HZ : Hid (¬ z = 0) := hz
    clear hzz
    go_enter Try.func4, Try.ntmps4
    go_wp2_with fail
    refine Calls.mono (HN.out _) ?_
    rintro e w1 ⟨rfl, rfl⟩
    go_wp2_with (first
      | (go_at_call 10; refine (HNUM.out _ _).mono ?_; rintro e w3 ⟨rfl, rfl⟩))
    refine Calls.mono (HKN.out _) ?_
    rintro e w4 ⟨rfl, hb4⟩
    have HB4 : Hid _ := hb4
    clear hb4
    go_wp2_with fail
    go_ret
    exact ⟨by simp; exact HZ.out, HB4.out⟩
  obtain ⟨B, hB⟩ : ∃ B, w.heap.size = B := ⟨_, rfl⟩
  have HN1 : Hid _ := new_ok room begin_ w (fun j => B < j) (by rw [hB]; omega) hz
  have hrb : 1 ≤ room ∧ 0 ≤ begin_ := by
    unfold newQ at hz
    split at hz
    · cases hz
    · split at hz
      · cases hz
      · omega
  have HRB : Hid (1 ≤ room ∧ 0 ≤ begin_) := hrb
  rw [hB] at HN1
  have HB : Hid (w.heap.size = B) := hB
  clear hB hz hrb
  go_enter Try.func4, Try.ntmps4
  go_wp2_with fail
  refine Calls.mono HN1.out ?_
  rintro e w1 ⟨rfl, hq1, hb1⟩
  have HI1 : Hid (RdI w B w1 ⟨room.toNat, 0, begin_.toNat, []⟩ (.slice none 0 0) (.slice none 0 0) [] []) := ⟨⟨_, hq1, fun j hj => Nat.lt_of_lt_of_le hq1.lt hj, (fun k hk => by cases hk), (fun k hk => by cases hk), (fun k hk => by cases hk), Deq.nil _ _, Deq.nil _ _, (fun x hx => by cases hx)⟩, ⟨(fun p hp => by cases hp), (fun t ht => by cases ht), (fun x hx => by cases hx)⟩, by rw [HB.out]; exact hb1⟩
  clear hq1 hb1 HN1
  go_wp2_with (first
    | (go_at_call 10; refine (HNUM.out _ _).mono ?_; rintro e w3 ⟨rfl, rfl⟩))
  go_loopw [11, 12, 13, 14] (fun pv bv hv i wr => ∃ (q nP : Nat) (Q : QuT) (P : List Int) (L : List (Value × List ItT)) (ap ab : Option Addr) (cp cb : Nat) (has : Int), i = .int .i64 q ∧ q ≤ m ∧ q ≤ 60 ∧ pv = .slice ap nP cp ∧ bv = .slice ab q cb ∧ hv = .int .i64 has ∧ nP ≤ q ∧ Hid (P.length = nP) ∧ Hid (L.length = q) ∧ Hid (RdI w B wr Q (.slice ap nP cp) (.slice ab q cb) P L)) (fun _ _ _ i _ => m - (intOf i).toNat)
  case atStart => exact ⟨0, 0, ⟨room.toNat, 0, begin_.toNat, []⟩, [], [], none, none, 0, 0, begin_, rfl, Nat.zero_le _, Nat.zero_le _, rfl, rfl, rfl, Nat.le_refl _, rfl, rfl, HI1⟩
  case round =>
    obtain ⟨q, nP, Q, P, L, ap, ab, cp, cb, has, rfl, hq, hq60, rfl, rfl, rfl, hnP, HNP, HNL, HI⟩ := hrel
    clear HI1
    by_cases hlt : q < m ∧ q < 60
    · obtain ⟨hlt, h60⟩ := hlt
      have hqi : (q : Int) < (m : Int) := by omega
      have h60' : (q : Int) < 60 := by omega
      obtain ⟨x, hx⟩ : ∃ x, l[q]? = some x := ⟨l[q]'(by rw [HM.out]; exact hlt), List.getElem?_eq_getElem _⟩
      have HSX : Hid x.Small := HSM.out x (List.mem_of_getElem? hx)
      obtain ⟨b, o, rfl, hPb, hb, u1, u2, e1⟩ := RowAt.get (StepsAt.keep HL.out (Kp.of_below HI.out.below _)) hx
      obtain ⟨kind, on, st, cs, ps⟩ := x
      obtain ⟨x0, x1, x2, x3, x4, xc, xp⟩ := e1
      simp only at x0 x1 x2 x3 x4 xc xp
      obtain ⟨ca, cc, rfl, _⟩ := RowAt.form xc
      obtain ⟨pa, pc, rfl, _⟩ := RowAt.form xp
      obtain ⟨cn, hcn⟩ : ∃ z, cs.length = z := ⟨_, rfl⟩
      obtain ⟨pn, hpn⟩ : ∃ z, ps.length = z := ⟨_, rfl⟩
      rw [hcn] at x3 xc
      rw [hpn] at x4 xp
      have hcn1 : cn ≤ 140737488355328 := by have := HSX.out.cs.len; unfold MaxRow at this; simp only at this; omega
      have hpn1 : pn ≤ 140737488355328 := by have := HSX.out.ps.len; unfold MaxRow at this; simp only at this; omega
      have HCN : Hid (cs.length = cn ∧ ps.length = pn) := ⟨hcn, hpn⟩
      obtain ⟨W, hW⟩ : ∃ W, wr.alloc (.cells #[.int .i64 kind, .int .i64 on, .int .i64 st, .slice ca cn cc, .slice pa pn pc] 33) = W := ⟨_, rfl⟩
      have hA : W.heap[wr.heap.size]? = some (.cells #[.int .i64 kind, .int .i64 on, .int .i64 st, .slice ca cn cc, .slice pa pn pc] 33 (0, 0)) := by rw [← hW]; exact heap_alloc_new _ _
      have hbW : Below wr.heap.size wr W := by rw [← hW]; exact (Below.refl _ _).alloc (Nat.le_refl _) _
      obtain ⟨y0, y1, y2, y3, y4⟩ := cells_5 hA
      obtain ⟨g, hgz⟩ : ∃ g, wr.heap.size = g := ⟨_, rfl⟩
      have hgB : g ≠ B := by
        obtain ⟨S, hS⟩ := HI.out.m
        have := hS.q.lt
        omega
      have HGB : Hid (g ≠ B) := hgB
      have HXC : Hid (TgsAt W (fun b => b < w.heap.size) (.slice ca cn cc) cs) := TgsAt.keep xc (Kp.of_below hbW _)
      have HXP : Hid (PasAt W (fun b => b < w.heap.size) (.slice pa pn pc) ps) := PasAt.keep xp (Kp.of_below hbW _)
      have HIW : Hid (RdI w B W Q (.slice ap nP cp) (.slice ab q cb) P L) := HI.out.at hbW
      have HGA : Hid (W.heap[g]? = some (.cells #[.int .i64 kind, .int .i64 on, .int .i64 st, .slice ca cn cc, .slice pa pn pc] 33 (0, 0))) := by rw [← hgz]; exact hA
      have HWW : Hid (wr.alloc (.cells #[.int .i64 kind, .int .i64 on, .int .i64 st, .slice ca cn cc, .slice pa pn pc] 33) = W) := hW
      have HSZ : Hid (wr.heap.size = g) := hgz
      rw [hgz] at y0 y1 y2 y3 y4
      clear hx xc xp hcn hpn hW hA hbW hgz HSM HL hgB
      go_upto_if 59 with fail
      rw [HWW.out, HSZ.out]
      clear x0 x1 x2 x3 x4 HWW HSZ hb HI
      go_cut [11] from 43 to 160 (fun s11 wc => ∃ (Q1 : QuT) (P1 : List Int) (a1 : Option Addr) (n1 c1 : Nat), s11 = .slice a1 n1 c1 ∧ n1 ≤ q + 1 ∧ Hid (P1.length = n1) ∧ Hid (RdI w B wc Q1 (.slice a1 n1 c1) (.slice ab q cb) P1 L))
      case first =>
        by_cases k1 : kind = 1
        · subst k1
          obtain ⟨S0, hS0⟩ := HIW.out.m
          have HPUT : Hid _ := put_some B Q st (.slice ca cn cc) cs W S0 (fun b => b < w.heap.size) hS0.q HXC.out HSX.out.cs (by rw [HB.out]; omega) hS0.hi
          have HAP : Hid (RdM W S0 B Q (.slice ap nP cp) (.slice ab q cb) P L) := hS0
          obtain ⟨pz, hpz⟩ : ∃ z, Q.putC st cs = z := ⟨_, rfl⟩
          rw [hpz] at HPUT
          have HPZ : Hid (Q.putC st cs = pz) := hpz
          clear hS0 hpz
          go_wp2_with fail
          refine Calls.mono HPUT.out ?_
          rintro e w2 ⟨rfl, hno, hyes, hc2⟩
          have HG2 : Hid (w2.heap[g]? = some (.cells #[.int .i64 1, .int .i64 on, .int .i64 st, .slice ca cn cc, .slice pa pn pc] 33 (0, 0))) := by
            show w2.heap[g]? = _
            rw [hc2.block g (lt_of_blk HGA.out) HGB.out]
            exact HGA.out
          have HB2 : Hid (Below w.heap.size w w2) := chg_new HIW.out.below hc2 (by rw [HB.out]; exact Nat.le_refl _)
          have HC2 : Hid (Chg W w2 (fun j => j = B)) := hc2
          obtain ⟨z0, z1, z2, z3, z4⟩ := cells_5 HG2.out
          clear hc2 y0 y1 y2 y3 y4 HPUT
          by_cases hp0 : pz = 0
          · subst hp0
            have HA2 : Hid (RdM w2 S0 B ⟨Q.room, Q.first, st.toNat, Q.l ++ [⟨st, Q.last, false, cs, []⟩]⟩ (.slice ap nP cp) (.slice ab q cb) P L) := HAP.out.chg (hyes rfl) HC2.out
            have HR2 : Hid (RdP st.toNat (P ++ [st]) (Q.l ++ [⟨st, Q.last, false, cs, []⟩]) (L.map (·.2))) := HIW.out.p.put (putC_ok HPZ.out).1
            clear hno hyes
            go_wp2_with (first
              | (go_at_call 10; refine (HNUM.out _ _).mono ?_; rintro e w3 ⟨rfl, hw3⟩; subst hw3)
              | (at_builtin; refine wpList_app_int rfl _ _ rfl (.slice ap nP cp) (P.map (.int .i64 ·)) rfl (Deq.below HA2.out.dp ((Below.refl _ _).alloc (Nat.le_refl _) _)) w3.heap.size 1 st rfl (cells_1 (heap_alloc_new _ _)) (by rw [List.length_map, HNP.out]; omega) ?_; intro v4 w4 hd4 hg4 hf4))
            have hbn : Below w3.heap.size w3 (w3.alloc (.cells #[.int .i64 st] 3)) := (Below.refl _ _).alloc (Nat.le_refl _) _
            obtain ⟨S4, hM4⟩ := (HA2.out.below hbn).appP hg4 hf4 hd4
            obtain ⟨a1, c1, hv4, _⟩ := Deq.form hd4
            have hlen : (P.map (Value.int .i64 ·) ++ [Value.int .i64 st]).length = nP + 1 := by rw [List.length_append, List.length_map, HNP.out]; rfl
            rw [hlen] at hv4
            subst hv4
            have HO : Hid (RdI w B w4 ⟨Q.room, Q.first, st.toNat, Q.l ++ [⟨st, Q.last, false, cs, []⟩]⟩ (.slice a1 (nP + 1) c1) (.slice ab q cb) (P ++ [st]) L) := ⟨⟨S4, hM4⟩, HR2.out, grown_below (trans2 HB2.out hbn) hg4 HB.out (fun k hk => (HA2.out.lop k hk).2)⟩
            clear hd4 hg4 hf4 hM4 hlen
            go_meet
            case rel => exact ⟨_, P ++ [st], a1, nP + 1, c1, rfl, by omega, by show (P ++ [st]).length = nP + 1; rw [List.length_append, HNP.out]; rfl, HO⟩
          · have HO : Hid (RdI w B w2 Q (.slice ap nP cp) (.slice ab q cb) P L) := ⟨⟨S0, HAP.out.chg (hno hp0) HC2.out⟩, HIW.out.p, HB2.out⟩
            have hp0' : (pz == 0) = false := by simpa using hp0
            clear hno hyes hp0
            go_wp2_with (first | (go_at_call 10; refine (HNUM.out _ _).mono ?_; rintro e w3 ⟨rfl, hw3⟩; subst hw3))
            go_meet
            case rel => exact ⟨Q, P, ap, nP, cp, rfl, by omega, HNP, HO⟩
        · by_cases k2 : kind = 2
          · subst k2
            obtain ⟨S0, hS0⟩ := HIW.out.m
            have HCOL : Hid _ := coll_some B Q st (.slice pa pn pc) ps W S0 (fun b => b < w.heap.size) hS0.q HXP.out HSX.out.ps (by rw [HB.out]; omega) hS0.hi
            have HAP : Hid (RdM W S0 B Q (.slice ap nP cp) (.slice ab q cb) P L) := hS0
            obtain ⟨pz, hpz⟩ : ∃ z, Q.collC st ps = z := ⟨_, rfl⟩
            rw [hpz] at HCOL
            have HPZ : Hid (Q.collC st ps = pz) := hpz
            clear hS0 hpz
            go_wp2_with fail
            refine Calls.mono HCOL.out ?_
            rintro e w2 ⟨rfl, hno, hyes, hc2⟩
            have HB2 : Hid (Below w.heap.size w w2) := chg_new HIW.out.below hc2 (by rw [HB.out]; exact Nat.le_refl _)
            have HO : Hid (∃ Q1, RdI w B w2 Q1 (.slice ap nP cp) (.slice ab q cb) P L) := by
              by_cases hp0 : pz = 0
              · obtain ⟨f, hqf⟩ := hyes hp0
                exact ⟨_, ⟨S0, HAP.out.chg hqf hc2⟩, HIW.out.p.coll (collC_ok (HPZ.out.trans hp0)).1, HB2.out⟩
              · exact ⟨_, ⟨S0, HAP.out.chg (hno hp0) hc2⟩, HIW.out.p, HB2.out⟩
            clear hno hyes hc2 y0 y1 y2 y3 y4 HCOL
            go_wp2_with fail
            go_meet
            case rel =>
              obtain ⟨Q1, hQ1⟩ := HO.out
              exact ⟨Q1, P, ap, nP, cp, rfl, by omega, HNP, hQ1⟩
          · have d1 : (kind == 1) = false := by simpa using k1
            have d2 : (kind == 2) = false := by simpa using k2
            clear k1 k2
            go_wp2_with fail
            go_meet
            case rel => exact ⟨Q, P, ap, nP, cp, rfl, by omega, HNP, HIW⟩
      case rest =>
        obtain ⟨Q1, P1, a1, n1, c1, rfl, hn1, HN1, HO⟩ := hcut
        have HTAc : Hid (TakesAt wc (fun b => b < w.heap.size) (.slice ta nT tc) T) := TakesAt.keep HTA.out (Kp.of_below HO.out.below _)
        obtain ⟨S0, hS0⟩ := HO.out.m
        have HMc : Hid (RdM wc S0 B Q1 (.slice a1 n1 c1) (.slice ab q cb) P1 L) := hS0
        clear hS0 y0 y1 y2 y3 y4 HIW HXC HXP HGA
        go_wp2_with fail
        refine Calls.mono (next_some B Q1 99 _ S0 HMc.out.q) ?_
        rintro e w3 ⟨v3, rfl, hv3, hq3, hc3⟩
        have hl32 : Q1.l.length ≤ 32 := by have h1 := HMc.out.q.ok.room; have h2 := HMc.out.q.ok.fits; omega
        rw [nextN_all hl32] at hv3
        obtain ⟨a3, c3, rfl, _⟩ := RowAt.form hv3
        obtain ⟨n3, hn3⟩ : ∃ n3, Q1.l.length = n3 := ⟨_, rfl⟩
        rw [hn3] at hv3 hl32 ⊢
        have HN3 : Hid (Q1.l.length = n3) := hn3
        have HV3 : Hid (ItsAt w3 S0 (.slice a3 n3 c3) Q1.l) := ItsAt.mono hv3 (fun j _ hj => HMc.out.hi j hj)
        have HM3 : Hid (RdM w3 S0 B Q1 (.slice a1 n1 c1) (.slice ab q cb) P1 L) := HMc.out.chg hq3 hc3
        have HB3 : Hid (Below w.heap.size w w3) := chg_new HO.out.below hc3 (by rw [HB.out]; exact Nat.le_refl _)
        clear hv3 hq3 hc3 hn3
        by_cases hqT : nT ≤ q
        · have hqi' : (nT : Int) ≤ (q : Int) := by omega
          have dq : decide ((nT : Int) ≤ (q : Int)) = true := by simpa using hqi'
          go_wp2_with (first
            | (at_builtin; refine wpList_app_its rfl _ _ rfl (.slice ab q cb) (L.map (·.1)) rfl (Deq.below HM3.out.db ((Below.refl _ _).alloc (Nat.le_refl _) _)) w3.heap.size 1 a3 n3 c3 rfl (cells_1 (heap_alloc_new _ _)) (by rw [List.length_map, HNL.out]; omega) ?_; intro v4 w4 hd4 hg4 hf4
               obtain ⟨ab1, cb1, hv4, _⟩ := Deq.form hd4
               have hlen : (L.map (·.1) ++ [Value.slice a3 n3 c3]).length = q + 1 := by rw [List.length_append, List.length_map, HNL.out]; rfl
               rw [hlen] at hv4
               subst hv4
               have hbn : Below w3.heap.size w3 (w3.alloc (.cells #[.slice a3 n3 c3] 39)) := (Below.refl _ _).alloc (Nat.le_refl _) _
               have HI4 : Hid (RdI w B w4 Q1 (.slice a1 n1 c1) (.slice ab1 (q + 1) cb1) P1 (L ++ [(.slice a3 n3 c3, Q1.l)])) := by
                 obtain ⟨S4, hM4⟩ := (HM3.out.below hbn).appB hg4 hf4 hd4 (ItsAt.keep HV3.out (Kp.of_below hbn _))
                 exact ⟨⟨S4, hM4⟩, by rw [List.map_append]; exact HO.out.p.next, grown_below (trans2 HB3.out hbn) hg4 HB.out (fun k hk => (HM3.out.lob k hk).2)⟩
               have HNL1 : Hid ((L ++ [((.slice a3 n3 c3 : Value), Q1.l)]).length = q + 1) := by show _ = _; rw [List.length_append, HNL.out]; rfl
               generalize L ++ [((.slice a3 n3 c3 : Value), Q1.l)] = L1 at HI4 HNL1
               clear hd4 hg4 hf4 hlen hbn HM3 HV3 HB3))
          go_roundw
          case rel => exact ⟨q + 1, n1, Q1, P1, L1, a1, ab1, c1, cb1, has, by go_num, by omega, by omega, rfl, rfl, rfl, hn1, HN1, HNL1, HI4⟩
          case measure => simp [intOf]; omega
        · have hqi' : (q : Int) < (nT : Int) := by omega
          have hqn : q < nT := by omega
          have hqj : ¬ (nT : Int) ≤ (q : Int) := by omega
          obtain ⟨y, hy⟩ : ∃ y, T[q]? = some y := ⟨T[q]'(by rw [HNT.out]; exact hqn), List.getElem?_eq_getElem _⟩
          obtain ⟨tb, tof, rfl, _, htb, e0⟩ := RowAt.get HTA.out hy
          obtain ⟨yat, ywh, yack⟩ := y
          obtain ⟨e0, e1, e2⟩ := e0
          simp only at e0 e1 e2
          have HTC : Hid (∀ W', Below w.heap.size w W' → W'.cell? ⟨tb, tof + q * 3, none⟩ = some (.int .i64 yat) ∧ W'.cell? ⟨tb, tof + q * 3 + 1, none⟩ = some (.int .i64 ywh) ∧ W'.cell? ⟨tb, tof + q * 3 + 2, none⟩ = some (.bool yack)) := fun W' hb => ⟨by rw [hb.cell (p := ⟨tb, _, none⟩) htb]; exact e0, by rw [hb.cell (p := ⟨tb, _, none⟩) htb]; exact e1, by rw [hb.cell (p := ⟨tb, _, none⟩) htb]; exact e2⟩
          obtain ⟨r1, hr1⟩ : ∃ r1, Int.tmod yat ((q : Int) + 1) = r1 := ⟨_, rfl⟩
          have hr1b : -((q : Int) + 1) < r1 ∧ r1 < (q : Int) + 1 := by
            have h1 := Int.tmod_lt_of_pos yat (b := (q : Int) + 1) (by omega)
            have h2 := Int.lt_tmod_of_pos yat (b := (q : Int) + 1) (by omega)
            omega
          obtain ⟨kk, hkk⟩ : ∃ kk : Nat, Int.tmod (r1 + ((q : Int) + 1)) ((q : Int) + 1) = (kk : Int) := ⟨(Int.tmod (r1 + ((q : Int) + 1)) ((q : Int) + 1)).toNat, by
            have := Int.tmod_nonneg (a := r1 + ((q : Int) + 1)) ((q : Int) + 1) (by omega)
            omega⟩
          have hkl : kk < q + 1 := by
            have h1 := Int.tmod_lt_of_pos (r1 + ((q : Int) + 1)) (b := (q : Int) + 1) (by omega)
            omega
          have hz : ((q : Int) + 1 == 0) = false := by simp; omega
          have hz' : ¬ (q : Int) + 1 = 0 := by omega
          clear hy e0 e1 e2 htb
          go_upto_region 20 with (first
            | (at_builtin; refine wpList_app_its rfl _ _ rfl (.slice ab q cb) (L.map (·.1)) rfl (Deq.below HM3.out.db ((Below.refl _ _).alloc (Nat.le_refl _) _)) w3.heap.size 1 a3 n3 c3 rfl (cells_1 (heap_alloc_new _ _)) (by rw [List.length_map, HNL.out]; omega) ?_; intro v4 w4 hd4 hg4 hf4
               obtain ⟨ab1, cb1, hv4, _⟩ := Deq.form hd4
               have hlen : (L.map (·.1) ++ [Value.slice a3 n3 c3]).length = q + 1 := by rw [List.length_append, List.length_map, HNL.out]; rfl
               rw [hlen] at hv4
               subst hv4
               have hbn : Below w3.heap.size w3 (w3.alloc (.cells #[.slice a3 n3 c3] 39)) := (Below.refl _ _).alloc (Nat.le_refl _) _
               have HI4 : Hid (RdI w B w4 Q1 (.slice a1 n1 c1) (.slice ab1 (q + 1) cb1) P1 (L ++ [(.slice a3 n3 c3, Q1.l)])) := by
                 obtain ⟨S4, hM4⟩ := (HM3.out.below hbn).appB hg4 hf4 hd4 (ItsAt.keep HV3.out (Kp.of_below hbn _))
                 exact ⟨⟨S4, hM4⟩, by rw [List.map_append]; exact HO.out.p.next, grown_below (trans2 HB3.out hbn) hg4 HB.out (fun k hk => (HM3.out.lob k hk).2)⟩
               have HNL1 : Hid ((L ++ [((.slice a3 n3 c3 : Value), Q1.l)]).length = q + 1) := by show _ = _; rw [List.length_append, HNL.out]; rfl
               generalize L ++ [((.slice a3 n3 c3 : Value), Q1.l)] = L1 at HI4 HNL1
               clear hd4 hg4 hf4 hlen hbn HM3 HV3 HB3
               obtain ⟨t0, t1, t2⟩ := HTC.out w4 HI4.out.below
               obtain ⟨S4, hM4⟩ := HI4.out.m
               obtain ⟨⟨xv, xl⟩, hx1⟩ : ∃ x1, L1[kk]? = some x1 := ⟨L1[kk]'(by rw [HNL1.out]; exact hkl), List.getElem?_eq_getElem _⟩
               obtain ⟨g5, o5, rfl, hg5, s5⟩ := Deq.get hM4.db (x := xv) (j := kk) (by rw [List.getElem?_map, hx1]; rfl)
               have HIT : Hid (ItsAt w4 S4 xv xl) := hM4.each _ (List.mem_of_getElem? hx1)
               have HTD : Hid (∀ t ∈ xl, Told Q1.last P1 t) := HI4.out.p.book xl (List.mem_map_of_mem (f := (·.2)) (List.mem_of_getElem? hx1))
               obtain ⟨ak, ck, hk, _⟩ := RowAt.form HIT.out
               subst hk
               obtain ⟨nk, hnk⟩ : ∃ nk, xl.length = nk := ⟨_, rfl⟩
               rw [hnk] at HIT s5
               have HNK : Hid (xl.length = nk) := hnk
               have h5 : ∀ ob o, (w4.alloc ob).cell? ⟨g5, o, none⟩ = w4.cell? ⟨g5, o, none⟩ := fun ob o => ((Below.refl w4.heap.size w4).alloc (Nat.le_refl _) ob).cell (p := ⟨g5, o, none⟩) hg5
               have hki : (kk : Int) < (q : Int) + 1 := by omega
               clear hM4 hx1 hnk hg5))
          obtain ⟨W5, hW5⟩ : ∃ W5, w4.alloc (.cells #[.int .i64 yat, .int .i64 ywh, .bool yack] 47) = W5 := ⟨_, rfl⟩
          have hA5 : W5.heap[w4.heap.size]? = some (.cells #[.int .i64 yat, .int .i64 ywh, .bool yack] 47 (0, 0)) := by rw [← hW5]; exact heap_alloc_new _ _
          have hb5 : Below w4.heap.size w4 W5 := by rw [← hW5]; exact (Below.refl _ _).alloc (Nat.le_refl _) _
          rw [hW5]
          obtain ⟨g6, hg6⟩ : ∃ g6, w4.heap.size = g6 := ⟨_, rfl⟩
          rw [hg6] at hA5 ⊢
          have HA5 : Hid (W5.heap[g6]? = some (.cells #[.int .i64 yat, .int .i64 ywh, .bool yack] 47 (0, 0))) := hA5
          obtain ⟨p0, p1, p2⟩ := cells_3 hA5
          have HI5 : Hid (RdI w B W5 Q1 (.slice a1 n1 c1) (.slice (some ⟨g5, o5, none⟩) (q + 1) cb1) P1 L1) := HI4.out.at hb5
          have HIT5 : Hid (ItsAt W5 S4 (.slice ak nk ck) xl) := ItsAt.keep HIT.out (Kp.of_below hb5 _)
          clear hA5 hb5 hW5 hg6 HI4 HIT t0 t1 t2 s5 h5 hz hz' hkk hkl hr1 hr1b hki
          by_cases hw0 : 0 ≤ ywh
          · obtain ⟨j, rfl⟩ : ∃ j : Nat, ywh = (j : Int) := ⟨ywh.toNat, by omega⟩
            have d1 : decide (0 ≤ (j : Int)) = true := by simp
            by_cases hjk : j < nk
            · have d2 : (j : Int) < (nk : Int) := by omega
              have d2' : decide ((j : Int) < (nk : Int)) = true := by simpa using d2
              have d2n : decide (j < nk) = true := by simpa using hjk
              obtain ⟨t, ht⟩ : ∃ t, xl[j]? = some t := ⟨xl[j]'(by rw [HNK.out]; exact hjk), List.getElem?_eq_getElem _⟩
              obtain ⟨b7, o7, rfl, _, hb7, v1, v2, e7⟩ := RowAt.get HIT5.out ht
              obtain ⟨y0, y1, y2, y3, y4, yc7, yp7⟩ := e7
              obtain ⟨ca7, cc7, rfl, _⟩ := RowAt.form yc7
              obtain ⟨pa7, pc7, rfl, _⟩ := RowAt.form yp7
              obtain ⟨cn7, hcn7⟩ : ∃ z, t.cs.length = z := ⟨_, rfl⟩
              obtain ⟨pn7, hpn7⟩ : ∃ z, t.ps.length = z := ⟨_, rfl⟩
              rw [hcn7] at y3
              rw [hpn7] at y4
              clear hcn7 hpn7 yc7 yp7
              by_cases haf : t.af ≤ has
              · by_cases hst : has < t.st
                · have d3 : decide (t.af ≤ has) = true := by simpa using haf
                  have d4 : decide (has < t.st) = true := by simpa using hst
                  have HTT := HTD.out t (List.mem_of_getElem? ht)
                  have HGAP : Hid (t.mark = false → ∀ p ∈ P1, p ≤ has ∨ t.st ≤ p) := fun hm p hp => by
                    rcases HTT.gap hm p hp with h | h
                    · exact .inl (by omega)
                    · exact .inr h
                  clear HTT
                  go_upto_region 22 with fail
                  obtain ⟨W7, hW7⟩ : ∃ W7, W5.alloc (.cells #[.int .i64 t.st, .int .i64 t.af, .bool t.mark, .slice ca7 cn7 cc7, .slice pa7 pn7 pc7] 42) = W7 := ⟨_, rfl⟩
                  have hA7 : W7.heap[W5.heap.size]? = some (.cells #[.int .i64 t.st, .int .i64 t.af, .bool t.mark, .slice ca7 cn7 cc7, .slice pa7 pn7 pc7] 42 (0, 0)) := by rw [← hW7]; exact heap_alloc_new _ _
                  have hb7 : Below W5.heap.size W5 W7 := by rw [← hW7]; exact (Below.refl _ _).alloc (Nat.le_refl _) _
                  rw [hW7]
                  have HI7 : Hid (RdI w B W7 Q1 (.slice a1 n1 c1) (.slice (some ⟨g5, o5, none⟩) (q + 1) cb1) P1 L1) := HI5.out.at hb7
                  have HA67 : Hid (W7.heap[g6]? = some (.cells #[.int .i64 yat, .int .i64 j, .bool yack] 47 (0, 0))) := kept_block hb7 HA5.out
                  obtain ⟨g7, hg7⟩ : ∃ g7, W5.heap.size = g7 := ⟨_, rfl⟩
                  rw [hg7] at hA7 ⊢
                  have HA7 : Hid (W7.heap[g7]? = some (.cells #[.int .i64 t.st, .int .i64 t.af, .bool t.mark, .slice ca7 cn7 cc7, .slice pa7 pn7 pc7] 42 (0, 0))) := hA7
                  obtain ⟨m0, m1, m2, m3, m4⟩ := cells_5 hA7
                  obtain ⟨p0, p1, p2⟩ := cells_3 HA67.out
                  clear hA7 hb7 hW7 hg7 y0 y1 y2 y3 y4
                  obtain ⟨mk, hmk⟩ : ∃ mk, t.mark = mk := ⟨_, rfl⟩
                  rw [hmk] at m2 HGAP HA7
                  clear hmk
                  cases mk with
                  | true =>
                    cases yack with
                    | false =>
                      go_wp2_with fail
                      go_roundw
                      case rel => exact ⟨q + 1, n1, Q1, P1, L1, a1, (some ⟨g5, o5, none⟩), c1, cb1, t.st, by go_num, by omega, by omega, rfl, rfl, rfl, hn1, HN1, HNL1, HI7⟩
                      case measure => simp [intOf]; omega
                    | true =>
                      go_wp2_with fail
                      obtain ⟨S6, hS6⟩ := HI7.out.m
                      refine Calls.mono (took_some B Q1 t.st _ S6 hS6.q) ?_
                      rintro e w9 ⟨rfl, ⟨f, hq9⟩, hc9⟩
                      have HI9 : Hid (RdI w B w9 ⟨Q1.room, f, Q1.last, Q1.l.drop (tookN Q1.l t.st)⟩ (.slice a1 n1 c1) (.slice (some ⟨g5, o5, none⟩) (q + 1) cb1) P1 L1) := ⟨⟨S6, hS6.chg hq9 hc9⟩, HI7.out.p.took _, chg_new HI7.out.below hc9 (by rw [HB.out]; exact Nat.le_refl _)⟩
                      clear hq9 hc9 hS6
                      go_wp2_with fail
                      go_roundw
                      case rel => exact ⟨q + 1, n1, _, P1, L1, a1, (some ⟨g5, o5, none⟩), c1, cb1, t.st, by go_num, by omega, by omega, rfl, rfl, rfl, hn1, HN1, HNL1, HI9⟩
                      case measure => simp [intOf]; omega
                  | false =>
                    have HMS : Hid _ := miss_any (.slice a1 n1 c1) P1 has t.st W7 (by obtain ⟨S, hS⟩ := HI7.out.m; exact hS.dp) (by rw [HN1.out]; omega) (HGAP.out rfl)
                    go_wp2_with fail
                    refine Calls.mono HMS.out ?_
                    rintro e w8 ⟨rfl, hb8⟩
                    have HI8 : Hid (RdI w B w8 Q1 (.slice a1 n1 c1) (.slice (some ⟨g5, o5, none⟩) (q + 1) cb1) P1 L1) := HI7.out.at hb8
                    have HA78 : Hid _ := kept_block hb8 HA7.out
                    have HA68 : Hid _ := kept_block hb8 HA67.out
                    obtain ⟨m0, m1, m2, m3, m4⟩ := cells_5 HA78.out
                    obtain ⟨p0, p1, p2⟩ := cells_3 HA68.out
                    clear hb8 HMS
                    cases yack with
                    | false =>
                      go_wp2_with fail
                      go_roundw
                      case rel => exact ⟨q + 1, n1, Q1, P1, L1, a1, (some ⟨g5, o5, none⟩), c1, cb1, t.st, by go_num, by omega, by omega, rfl, rfl, rfl, hn1, HN1, HNL1, HI8⟩
                      case measure => simp [intOf]; omega
                    | true =>
                      go_wp2_with fail
                      obtain ⟨S6, hS6⟩ := HI8.out.m
                      refine Calls.mono (took_some B Q1 t.st _ S6 hS6.q) ?_
                      rintro e w9 ⟨rfl, ⟨f, hq9⟩, hc9⟩
                      have HI9 : Hid (RdI w B w9 ⟨Q1.room, f, Q1.last, Q1.l.drop (tookN Q1.l t.st)⟩ (.slice a1 n1 c1) (.slice (some ⟨g5, o5, none⟩) (q + 1) cb1) P1 L1) := ⟨⟨S6, hS6.chg hq9 hc9⟩, HI8.out.p.took _, chg_new HI8.out.below hc9 (by rw [HB.out]; exact Nat.le_refl _)⟩
                      clear hq9 hc9 hS6
                      go_wp2_with fail
                      go_roundw
                      case rel => exact ⟨q + 1, n1, _, P1, L1, a1, (some ⟨g5, o5, none⟩), c1, cb1, t.st, by go_num, by omega, by omega, rfl, rfl, rfl, hn1, HN1, HNL1, HI9⟩
                      case measure => simp [intOf]; omega
                · have d3 : decide (t.af ≤ has) = true := by simpa using haf
                  have d4 : decide (has < t.st) = false := by simpa using hst
                  cases yack with
                  | false =>
                    go_wp2_with fail
                    go_roundw
                    case rel => exact ⟨q + 1, n1, Q1, P1, L1, a1, (some ⟨g5, o5, none⟩), c1, cb1, has, by go_num, by omega, by omega, rfl, rfl, rfl, hn1, HN1, HNL1, HI5⟩
                    case measure => simp [intOf]; omega
                  | true =>
                    go_wp2_with fail
                    obtain ⟨S6, hS6⟩ := HI5.out.m
                    refine Calls.mono (took_some B Q1 has _ S6 hS6.q) ?_
                    rintro e w9 ⟨rfl, ⟨f, hq9⟩, hc9⟩
                    have HI9 : Hid (RdI w B w9 ⟨Q1.room, f, Q1.last, Q1.l.drop (tookN Q1.l has)⟩ (.slice a1 n1 c1) (.slice (some ⟨g5, o5, none⟩) (q + 1) cb1) P1 L1) := ⟨⟨S6, hS6.chg hq9 hc9⟩, HI5.out.p.took _, chg_new HI5.out.below hc9 (by rw [HB.out]; exact Nat.le_refl _)⟩
                    clear hq9 hc9 hS6
                    go_wp2_with fail
                    go_roundw
                    case rel => exact ⟨q + 1, n1, _, P1, L1, a1, (some ⟨g5, o5, none⟩), c1, cb1, has, by go_num, by omega, by omega, rfl, rfl, rfl, hn1, HN1, HNL1, HI9⟩
                    case measure => simp [intOf]; omega
              · have d3 : decide (t.af ≤ has) = false := by simpa using haf
                cases yack with
                | false =>
                  go_wp2_with fail
                  go_roundw
                  case rel => exact ⟨q + 1, n1, Q1, P1, L1, a1, (some ⟨g5, o5, none⟩), c1, cb1, has, by go_num, by omega, by omega, rfl, rfl, rfl, hn1, HN1, HNL1, HI5⟩
                  case measure => simp [intOf]; omega
                | true =>
                  go_wp2_with fail
                  obtain ⟨S6, hS6⟩ := HI5.out.m
                  refine Calls.mono (took_some B Q1 has _ S6 hS6.q) ?_
                  rintro e w9 ⟨rfl, ⟨f, hq9⟩, hc9⟩
                  have HI9 : Hid (RdI w B w9 ⟨Q1.room, f, Q1.last, Q1.l.drop (tookN Q1.l has)⟩ (.slice a1 n1 c1) (.slice (some ⟨g5, o5, none⟩) (q + 1) cb1) P1 L1) := ⟨⟨S6, hS6.chg hq9 hc9⟩, HI5.out.p.took _, chg_new HI5.out.below hc9 (by rw [HB.out]; exact Nat.le_refl _)⟩
                  clear hq9 hc9 hS6
                  go_wp2_with fail
                  go_roundw
                  case rel => exact ⟨q + 1, n1, _, P1, L1, a1, (some ⟨g5, o5, none⟩), c1, cb1, has, by go_num, by omega, by omega, rfl, rfl, rfl, hn1, HN1, HNL1, HI9⟩
                  case measure => simp [intOf]; omega
            · have d2 : ¬ (j : Int) < (nk : Int) := by omega
              have d2' : decide ((j : Int) < (nk : Int)) = false := by simpa using d2
              have d2n : decide (j < nk) = false := by simpa using hjk
              cases yack with
              | false =>
                go_wp2_with fail
                go_roundw
                case rel => exact ⟨q + 1, n1, Q1, P1, L1, a1, (some ⟨g5, o5, none⟩), c1, cb1, has, by go_num, by omega, by omega, rfl, rfl, rfl, hn1, HN1, HNL1, HI5⟩
                case measure => simp [intOf]; omega
              | true =>
                go_wp2_with fail
                obtain ⟨S6, hS6⟩ := HI5.out.m
                refine Calls.mono (took_some B Q1 has _ S6 hS6.q) ?_
                rintro e w9 ⟨rfl, ⟨f, hq9⟩, hc9⟩
                have HI9 : Hid (RdI w B w9 ⟨Q1.room, f, Q1.last, Q1.l.drop (tookN Q1.l has)⟩ (.slice a1 n1 c1) (.slice (some ⟨g5, o5, none⟩) (q + 1) cb1) P1 L1) := ⟨⟨S6, hS6.chg hq9 hc9⟩, HI5.out.p.took _, chg_new HI5.out.below hc9 (by rw [HB.out]; exact Nat.le_refl _)⟩
                clear hq9 hc9 hS6
                go_wp2_with fail
                go_roundw
                case rel => exact ⟨q + 1, n1, _, P1, L1, a1, (some ⟨g5, o5, none⟩), c1, cb1, has, by go_num, by omega, by omega, rfl, rfl, rfl, hn1, HN1, HNL1, HI9⟩
                case measure => simp [intOf]; omega
          · have d1 : decide (0 ≤ ywh) = false := by simpa using hw0
            cases yack with
            | false =>
              go_wp2_with fail
              go_roundw
              case rel => exact ⟨q + 1, n1, Q1, P1, L1, a1, (some ⟨g5, o5, none⟩), c1, cb1, has, by go_num, by omega, by omega, rfl, rfl, rfl, hn1, HN1, HNL1, HI5⟩
              case measure => simp [intOf]; omega
            | true =>
              go_wp2_with fail
              obtain ⟨S6, hS6⟩ := HI5.out.m
              refine Calls.mono (took_some B Q1 has _ S6 hS6.q) ?_
              rintro e w9 ⟨rfl, ⟨f, hq9⟩, hc9⟩
              have HI9 : Hid (RdI w B w9 ⟨Q1.room, f, Q1.last, Q1.l.drop (tookN Q1.l has)⟩ (.slice a1 n1 c1) (.slice (some ⟨g5, o5, none⟩) (q + 1) cb1) P1 L1) := ⟨⟨S6, hS6.chg hq9 hc9⟩, HI5.out.p.took _, chg_new HI5.out.below hc9 (by rw [HB.out]; exact Nat.le_refl _)⟩
              clear hq9 hc9 hS6
              go_wp2_with fail
              go_roundw
              case rel => exact ⟨q + 1, n1, _, P1, L1, a1, (some ⟨g5, o5, none⟩), c1, cb1, has, by go_num, by omega, by omega, rfl, rfl, rfl, hn1, HN1, HNL1, HI9⟩
              case measure => simp [intOf]; omega
    · have hge : ¬ ((q : Int) < (m : Int) ∧ (q : Int) < 60) := by omega
      have HB3 : Hid (Below w.heap.size w wr) := HI.out.below
      by_cases hqm : q < m
      · have hqm' : (q : Int) < (m : Int) := by omega
        have h60 : ¬ (q : Int) < 60 := by omega
        clear hge hlt
        go_wp2_with fail
        refine Calls.mono (HKN.out _) ?_
        rintro e w4 ⟨rfl, hb4⟩
        have HB4 : Hid (Below w.heap.size w w4) := trans2 HB3.out hb4
        clear hb4
        go_wp2_with fail
        go_ret
        exact ⟨rfl, HB4.out⟩
      · have hqm' : ¬ (q : Int) < (m : Int) := by omega
        clear hge hlt
        go_wp2_with fail
        refine Calls.mono (HKN.out _) ?_
        rintro e w4 ⟨rfl, hb4⟩
        have HB4 : Hid (Below w.heap.size w w4) := trans2 HB3.out hb4
        clear hb4
        go_wp2_with fail
        go_ret
        exact ⟨rfl, HB4.out⟩
end Go.Proofs.Ytlidkieljiebiaa
