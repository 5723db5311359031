/-
  shot: hasParent, mayHave.
-/
import Derived.Test.YtbamkdohaofgdaaGreatDoorCFind
namespace Go.Proofs.YtbamkdohaofgdaaGreatDoor
open Go.RowKit
set_option linter.unusedVariables false
set_option linter.unusedSimpArgs false

/-- The place above, or nothing. -/
def upP (s : ByteArray) : ByteArray := if (parse s).1 = 0 ∧ (parse s).2 ≠ [] then placeB ((parse s).2.take ((parse s).2.length - 1)) else ⟨#[]⟩
theorem upP_size (s : ByteArray) : (upP s).size ≤ maxLen := by
  obtain ⟨⟨c, xs⟩, hp⟩ : ∃ q, parse s = q := ⟨_, rfl⟩
  have h := parse_len hp
  unfold upP maxLen
  rw [hp]
  split
  · have := place_size (xs := xs.take (xs.length - 1)) (by rw [List.length_take]; omega) (all_take h.2 _)
    exact Nat.le_trans this (by decide)
  · simp [ByteArray.size]
theorem parent_up (s : ByteArray) (w : World) (hg : Ground w) :
    Calls Tryz.prog 90 #[.string s] w fun e w' => ∃ c : Int, e = .returned (.tuple #[.string (upP s), .int .i64 c]) ∧ Below w.heap.size w w' := by
  obtain ⟨⟨c, xs⟩, hp⟩ : ∃ q, parse s = q := ⟨_, rfl⟩
  by_cases hc : c = 0
  · subst hc
    by_cases hx : xs = []
    · subst hx
      exact (parent_root hp w hg).mono (fun e w' h => ⟨47, by rw [h.1]; simp [upP, hp], h.2⟩)
    · obtain ⟨k, hk⟩ : ∃ k, xs.length = k + 1 := ⟨xs.length - 1, by have := List.length_pos_iff.2 hx; omega⟩
      exact (parent_some hp k hk w hg).mono (fun e w' h => ⟨0, by rw [h.1]; simp [upP, hp, hx, hk], h.2⟩)
  · obtain rfl := parse_code hp hc
    exact (parent_err hp hc w hg).mono (fun e w' h => ⟨c, by rw [h.1]; simp [upP, hp, hc], h.2⟩)
set_option maxHeartbeats 1600000 in
theorem hasParent_any (a : Option Addr) (c : Nat) (l : List SeenT) (at' : ByteArray) (w : World) (hg : Ground w) (hs : Ss w a l) (hl : l.length ≤ 100000) (hok : ∀ s ∈ l, s.p.size ≤ maxLen) (hasc : Asc l) :
    Calls Tryz.prog 60 #[.slice a l.length c, .string at'] w fun e w' => e = .returned (.bool (hasP l (upP at'))) ∧ Below w.heap.size w w' := by
  have HP : Hid _ := parent_up at' w hg
  have HF : Hid (∀ w', Below w.heap.size w w' → Calls Tryz.prog 38 #[.slice a l.length c, .string (upP at')] w' fun e w'' => ∃ i : Nat, e = .returned (.tuple #[.int .i64 i, .bool (hasP l (upP at'))]) ∧ i ≤ l.length ∧ (∀ (q : Nat) (x : SeenT), q < i → l[q]? = some x → O x.p (upP at') = -1) ∧ (∀ (q : Nat) (x : SeenT), i ≤ q → l[q]? = some x → O x.p (upP at') ≠ -1) ∧ Below w'.heap.size w' w'') := fun w' hb => find_any a c l (upP at') w' (hs.below hb) hl hok (upP_size _) hasc
  clear hs hok hasc hg
  go_enter Tryz.func60, Tryz.ntmps60
  go_wp2_with fail
  refine Calls.mono HP.out ?_
  rintro e w1 ⟨c1, rfl, hb1⟩
  have HB1 : Hid (Below w.heap.size w w1) := hb1
  clear hb1
  go_wp2_with fail
  refine (HF.out _ HB1.out).mono ?_
  rintro e w2 ⟨i, rfl, _, _, _, hb2⟩
  have HB2 : Hid (Below w.heap.size w w2) := trans2 HB1.out hb2
  clear hb2
  go_wp2_with fail
  go_ret
  exact ⟨rfl, HB2.out⟩

def bareB (k : Int) (n : SeenT) : Bool := decide (k ≠ 2) || (decide (n.d = ⟨#[]⟩) && decide (n.v = 0))
def behindB (p : ByteArray) (ahead : List SeenT) (n : SeenT) : Bool :=
  match ahead.getLast? with
  | none => decide (n.p = p)
  | some t => decide (O t.p n.p < 0) && hasP ahead (upP n.p)
def mayB (k : Int) (p : ByteArray) (ahead : List SeenT) (n : SeenT) : Bool := covers k p 1 n.p && fitB n.d n.v && bareB k n && behindB p ahead n
abbrev seC (n : SeenT) : Array Value := #[.string n.p, .string n.d, .int .i64 n.v]
abbrev shA (st : Int) (p : ByteArray) (k : Int) (a : Option Addr) (n c : Nat) : Array Value := #[.int .i64 st, .string p, .int .i64 k, .slice a n c]
theorem nil_ne {x : ByteArray} (h : x ≠ ⟨#[]⟩) : ¬ x.toList = [] := fun e => h (by
  rw [ByteArray.toList_eq] at e
  obtain ⟨⟨x⟩⟩ := x
  simp at e
  rw [e])
theorem eqL (x y : ByteArray) : (x.toList == y.toList) = decide (x = y) := by
  by_cases h : x = y
  · subst h; simp
  · rw [list_ne h, decide_eq_false h]
/-- What stands while mayHave is played. -/
structure MI (w W : World) (A N : Array Value) : Prop where
  pa : W.heap[w.heap.size]? = some (.cells A 24 (0, 0))
  pn : W.heap[w.heap.size + 1]? = some (.cells N 52 (0, 0))
  low : Below w.heap.size w W
theorem MI.start (w : World) (A N : Array Value) : MI w ((w.alloc (.cells A 24)).alloc (.cells N 52)) A N := ⟨new_old (heap_alloc_new _ _) _, heap_new' (by simp), ((Below.refl _ _).alloc (Nat.le_refl _) _).alloc (by simp) _⟩
theorem MI.below {w W W' : World} {A N : Array Value} (h : MI w W A N) (hb : Below W.heap.size W W') : MI w W' A N := ⟨kept_block hb h.pa, kept_block hb h.pn, trans2 h.low hb⟩
theorem last_at {l : List SeenT} (h : l ≠ []) : ∃ t, l.getLast? = some t ∧ l[l.length - 1]? = some t := by
  refine ⟨l.getLast h, List.getLast?_eq_some_getLast h, ?_⟩
  rw [List.getLast_eq_getElem, List.getElem?_eq_getElem]
set_option maxHeartbeats 3200000 in
set_option maxRecDepth 100000 in
theorem mayHave_any (st : Int) (p : ByteArray) (k : Int) (sa : Option Addr) (sn sc : Nat) (a : Option Addr) (c : Nat) (l : List SeenT) (n : SeenT) (w : World) (hg : Ground w) (hs : Ss w a l) (hl : l.length ≤ 100000) (hok : ∀ s ∈ l, s.p.size ≤ maxLen) (hn : n.p.size ≤ maxLen) (hasc : Asc l) :
    Calls Tryz.prog 31 #[.agg (shA st p k sa sn sc), .slice a l.length c, .agg (seC n)] w fun e w' => e = .returned (.bool (mayB k p l n)) ∧ Below w.heap.size w w' := by
  have HG : Hid (Ground w) := hg
  have HSS : Hid (Ss w a l) := hs
  have HOK : Hid (∀ s ∈ l, s.p.size ≤ maxLen) := hok
  have HN : Hid (n.p.size ≤ maxLen) := hn
  have HASC : Hid (Asc l) := hasc
  have H0 : Hid (MI w _ (shA st p k sa sn sc) (seC n)) := MI.start w (shA st p k sa sn sc) (seC n)
  clear hg hs hok hn hasc
  cases hcv : covers k p 1 n.p with
  | false =>
    have HM : Hid (mayB k p l n = false) := by show _ = _; simp [mayB, hcv]
    have HF : Hid _ := isFor_any st p k sa sn sc n.p _ (HG.out.below H0.out.low)
    rw [hcv] at HF
    go_enter Tryz.func31, Tryz.ntmps31
    go_wp2_with fail
    refine Calls.mono HF.out ?_
    rintro e w1 ⟨rfl, hb1⟩
    have H1 : Hid (MI w w1 (shA st p k sa sn sc) (seC n)) := H0.out.below hb1
    clear hb1
    go_wp2_with fail
    go_ret
    exact ⟨by rw [HM.out]; rfl, H1.out.low⟩
  | true =>
    have HF : Hid _ := isFor_any st p k sa sn sc n.p _ (HG.out.below H0.out.low)
    rw [hcv] at HF
    cases hft : fitB n.d n.v with
    | false =>
      have HM : Hid (mayB k p l n = false) := by show _ = _; simp [mayB, hft]
      have HT : Hid (∀ w, Calls Tryz.prog 42 #[.string n.d, .int .i64 n.v] w fun e w' => e = .returned (.bool false) ∧ w' = w) := fun w => by have := fits_any n.d n.v w; rw [hft] at this; exact this
      go_enter Tryz.func31, Tryz.ntmps31
      go_wp2_with fail
      refine Calls.mono HF.out ?_
      rintro e w1 ⟨rfl, hb1⟩
      have H1 : Hid (MI w w1 (shA st p k sa sn sc) (seC n)) := H0.out.below hb1
      obtain ⟨n0, n1, n2⟩ := cells_3 H1.out.pn
      obtain ⟨a0, a1, a2, a3⟩ := cells_4 H1.out.pa
      clear hb1
      go_wp2_with fail
      refine (HT.out _).mono ?_
      rintro e w2 ⟨rfl, rfl⟩
      go_wp2_with fail
      go_ret
      exact ⟨by rw [HM.out]; rfl, H1.out.low⟩
    | true =>
      have HT : Hid (∀ w, Calls Tryz.prog 42 #[.string n.d, .int .i64 n.v] w fun e w' => e = .returned (.bool true) ∧ w' = w) := fun w => by have := fits_any n.d n.v w; rw [hft] at this; exact this
      have HCV : Hid (covers k p 1 n.p = true) := hcv
      have HFT : Hid (fitB n.d n.v = true) := hft
      clear hcv hft
      by_cases hk : k = 2
      · subst hk
        by_cases hbr : n.d = ⟨#[]⟩ ∧ n.v = 0
        · obtain ⟨np, nd, nv⟩ := n
          simp only at hbr
          obtain ⟨rfl, rfl⟩ := hbr
          have HBR : Hid (bareB 2 (⟨np, ⟨#[]⟩, 0⟩ : SeenT) = true) := by show _ = _; simp [bareB]
          by_cases hle : l = []
          · have hl0 : l = [] := hle
            subst hl0
            have HM : Hid (mayB 2 p [] (⟨np, ⟨#[]⟩, 0⟩ : SeenT) = decide (np = p)) := by show _ = _; simp [mayB, behindB, HCV.out, HFT.out, HBR.out]
            go_enter Tryz.func31, Tryz.ntmps31
            go_wp2_with fail
            refine Calls.mono HF.out ?_
            rintro e w1 ⟨rfl, hb1⟩
            have H1 : Hid (MI w w1 (shA st p 2 sa sn sc) (seC (⟨np, ⟨#[]⟩, 0⟩ : SeenT))) := H0.out.below hb1
            obtain ⟨n0, n1, n2⟩ := cells_3 H1.out.pn
            obtain ⟨a0, a1, a2, a3⟩ := cells_4 H1.out.pa
            clear hb1
            go_wp2_with fail
            refine (HT.out _).mono ?_
            rintro e w2 ⟨rfl, rfl⟩
            go_wp2_with fail
            go_ret
            exact ⟨by rw [HM.out, ← eqL]; rfl, H1.out.low⟩
          · obtain ⟨t, ht1, ht2⟩ := last_at hle
            have HM : Hid (mayB 2 p l (⟨np, ⟨#[]⟩, 0⟩ : SeenT) = (decide (O t.p np < 0) && hasP l (upP np))) := by show _ = _; simp [mayB, behindB, HCV.out, HFT.out, HBR.out, ht1]
            have HTL : Hid (t.p.size ≤ maxLen) := HOK.out t (List.mem_of_getElem? ht2)
            obtain ⟨m, hm⟩ : ∃ m, l.length = m + 1 := ⟨l.length - 1, by have := List.length_pos_iff.2 hle; omega⟩
            rw [hm, Nat.add_sub_cancel] at ht2
            have HLE : Hid (l.length = m + 1) := hm
            have HT2 : Hid (l[m]? = some t) := ht2
            rw [hm] at hl
            rw [hm]
            have hlm : (0 : Int) ≤ (m : Int) := by omega
            have hlm1 : (m : Int) < (m : Int) + 1 := by omega
            clear ht1 ht2 hm hle
            go_enter Tryz.func31, Tryz.ntmps31
            go_wp2_with fail
            refine Calls.mono HF.out ?_
            rintro e w1 ⟨rfl, hb1⟩
            have H1 : Hid (MI w w1 (shA st p 2 sa sn sc) (seC (⟨np, ⟨#[]⟩, 0⟩ : SeenT))) := H0.out.below hb1
            obtain ⟨n0, n1, n2⟩ := cells_3 H1.out.pn
            obtain ⟨a0, a1, a2, a3⟩ := cells_4 H1.out.pa
            clear hb1
            go_wp2_with fail
            refine (HT.out _).mono ?_
            rintro e w2 ⟨rfl, rfl⟩
            obtain ⟨b, o, rfl, hb, x0, x1, x2⟩ := (HSS.out.below H1.out.low).at HT2.out
            have H2 : Hid (MI w (w2.alloc (.cells (seC t) 52)) (shA st p 2 sa sn sc) (seC (⟨np, ⟨#[]⟩, 0⟩ : SeenT))) := H1.out.below ((Below.refl _ _).alloc (Nat.le_refl _) _)
            have HO : Hid _ := order_O t.p np HTL.out HN.out (w2.alloc (.cells (seC t) 52))
            obtain ⟨y0, y1, y2⟩ := cells_3 H2.out.pn
            have hsz2 : w.heap.size + 1 < w2.heap.size := lt_of_blk H1.out.pn
            go_wp2_with fail
            refine Calls.mono HO.out ?_
            obtain ⟨r, hr⟩ : ∃ r, O t.p np = r := ⟨_, rfl⟩
            have HRO : Hid (O t.p np = r) := hr
            rintro e w3 ⟨he, mm, rfl⟩
            rw [hr] at he
            subst he
            have H3 : Hid (MI w ((w2.alloc (.cells (seC t) 52)).drewN mm) (shA st p 2 sa sn sc) (seC (⟨np, ⟨#[]⟩, 0⟩ : SeenT))) := H2.out.below ⟨rfl, rfl, rfl, Nat.le_refl _, fun _ _ => rfl⟩
            obtain ⟨z0, z1, z2⟩ := cells_3 H3.out.pn
            have HHP : Hid (∀ w', Below w.heap.size w w' → Calls Tryz.prog 60 #[.slice (some ⟨b, o, none⟩) (m + 1) c, .string np] w' fun e w'' => e = .returned (.bool (hasP l (upP np))) ∧ Below w'.heap.size w' w'') := fun w' hb => by
              have := hasParent_any (some ⟨b, o, none⟩) c l np w' (HG.out.below hb) (HSS.out.below hb) (by rw [HLE.out]; exact hl) HOK.out HASC.out
              rw [HLE.out] at this
              exact this
            clear hr y0 y1 y2 x0 x1 x2
            by_cases hneg : r < 0
            · go_wp2_with fail
              refine (HHP.out _ H3.out.low).mono ?_
              rintro e w4 ⟨rfl, hb4⟩
              have HB4 : Hid (Below w.heap.size w w4) := trans2 H3.out.low hb4
              clear hb4
              go_wp2_with fail
              go_ret
              exact ⟨by rw [HM.out, HRO.out, decide_eq_true hneg, Bool.true_and]; rfl, HB4.out⟩
            · go_wp2_with fail
              go_ret
              exact ⟨by rw [HM.out, HRO.out, decide_eq_false (show ¬ r < 0 by omega), Bool.false_and]; rfl, H3.out.low⟩
        · have HM : Hid (mayB 2 p l n = false) := by
            show _ = _
            have : bareB 2 n = false := by
              unfold bareB
              rw [decide_eq_false (by decide), Bool.false_or, Bool.eq_false_iff]
              intro h
              rw [Bool.and_eq_true, decide_eq_true_eq, decide_eq_true_eq] at h
              exact hbr h
            simp [mayB, this]
          have hcase : (¬ n.d.toList = []) ∨ (n.d = ⟨#[]⟩ ∧ (n.v == 0) = false) := by
            by_cases hd : n.d = ⟨#[]⟩
            · exact .inr ⟨hd, by simpa using fun hv => hbr ⟨hd, hv⟩⟩
            · exact .inl (nil_ne hd)
          rcases hcase with h1 | ⟨h0, h1⟩
          · go_enter Tryz.func31, Tryz.ntmps31
            go_wp2_with fail
            refine Calls.mono HF.out ?_
            rintro e w1 ⟨rfl, hb1⟩
            have H1 : Hid (MI w w1 (shA st p 2 sa sn sc) (seC n)) := H0.out.below hb1
            obtain ⟨n0, n1, n2⟩ := cells_3 H1.out.pn
            obtain ⟨a0, a1, a2, a3⟩ := cells_4 H1.out.pa
            clear hb1
            go_wp2_with fail
            refine (HT.out _).mono ?_
            rintro e w2 ⟨rfl, rfl⟩
            go_wp2_with fail
            all_goals
              go_ret
              exact ⟨by rw [HM.out]; rfl, H1.out.low⟩
          · obtain ⟨np, nd, nv⟩ := n
            simp only at h0 h1
            subst h0
            go_enter Tryz.func31, Tryz.ntmps31
            go_wp2_with fail
            refine Calls.mono HF.out ?_
            rintro e w1 ⟨rfl, hb1⟩
            have H1 : Hid (MI w w1 (shA st p 2 sa sn sc) (seC ⟨np, ⟨#[]⟩, nv⟩)) := H0.out.below hb1
            obtain ⟨n0, n1, n2⟩ := cells_3 H1.out.pn
            obtain ⟨a0, a1, a2, a3⟩ := cells_4 H1.out.pa
            clear hb1
            go_wp2_with fail
            refine (HT.out _).mono ?_
            rintro e w2 ⟨rfl, rfl⟩
            go_wp2_with fail
            all_goals
              go_ret
              exact ⟨by rw [HM.out]; rfl, H1.out.low⟩
      · have HBR : Hid (bareB k n = true) := by show _ = _; simp [bareB, hk]
        by_cases hle : l = []
        · have hl0 : l = [] := hle
          subst hl0
          have HM : Hid (mayB k p [] n = decide (n.p = p)) := by show _ = _; simp [mayB, behindB, HCV.out, HFT.out, HBR.out]
          go_enter Tryz.func31, Tryz.ntmps31
          go_wp2_with fail
          refine Calls.mono HF.out ?_
          rintro e w1 ⟨rfl, hb1⟩
          have H1 : Hid (MI w w1 (shA st p k sa sn sc) (seC n)) := H0.out.below hb1
          obtain ⟨n0, n1, n2⟩ := cells_3 H1.out.pn
          obtain ⟨a0, a1, a2, a3⟩ := cells_4 H1.out.pa
          clear hb1
          go_wp2_with fail
          refine (HT.out _).mono ?_
          rintro e w2 ⟨rfl, rfl⟩
          go_wp2_with fail
          go_ret
          exact ⟨by rw [HM.out, ← eqL]; rfl, H1.out.low⟩
        · obtain ⟨t, ht1, ht2⟩ := last_at hle
          have HM : Hid (mayB k p l n = (decide (O t.p n.p < 0) && hasP l (upP n.p))) := by show _ = _; simp [mayB, behindB, HCV.out, HFT.out, HBR.out, ht1]
          have HTL : Hid (t.p.size ≤ maxLen) := HOK.out t (List.mem_of_getElem? ht2)
          obtain ⟨m, hm⟩ : ∃ m, l.length = m + 1 := ⟨l.length - 1, by have := List.length_pos_iff.2 hle; omega⟩
          rw [hm, Nat.add_sub_cancel] at ht2
          have HLE : Hid (l.length = m + 1) := hm
          have HT2 : Hid (l[m]? = some t) := ht2
          rw [hm] at hl
          rw [hm]
          have hlm : (0 : Int) ≤ (m : Int) := by omega
          have hlm1 : (m : Int) < (m : Int) + 1 := by omega
          clear ht1 ht2 hm hle
          go_enter Tryz.func31, Tryz.ntmps31
          go_wp2_with fail
          refine Calls.mono HF.out ?_
          rintro e w1 ⟨rfl, hb1⟩
          have H1 : Hid (MI w w1 (shA st p k sa sn sc) (seC n)) := H0.out.below hb1
          obtain ⟨n0, n1, n2⟩ := cells_3 H1.out.pn
          obtain ⟨a0, a1, a2, a3⟩ := cells_4 H1.out.pa
          clear hb1
          go_wp2_with fail
          refine (HT.out _).mono ?_
          rintro e w2 ⟨rfl, rfl⟩
          obtain ⟨b, o, rfl, hb, x0, x1, x2⟩ := (HSS.out.below H1.out.low).at HT2.out
          have H2 : Hid (MI w (w2.alloc (.cells (seC t) 52)) (shA st p k sa sn sc) (seC n)) := H1.out.below ((Below.refl _ _).alloc (Nat.le_refl _) _)
          have HO : Hid _ := order_O t.p n.p HTL.out HN.out (w2.alloc (.cells (seC t) 52))
          obtain ⟨y0, y1, y2⟩ := cells_3 H2.out.pn
          have hsz2 : w.heap.size + 1 < w2.heap.size := lt_of_blk H1.out.pn
          go_wp2_with fail
          refine Calls.mono HO.out ?_
          obtain ⟨r, hr⟩ : ∃ r, O t.p n.p = r := ⟨_, rfl⟩
          have HRO : Hid (O t.p n.p = r) := hr
          rintro e w3 ⟨he, mm, rfl⟩
          rw [hr] at he
          subst he
          have H3 : Hid (MI w ((w2.alloc (.cells (seC t) 52)).drewN mm) (shA st p k sa sn sc) (seC n)) := H2.out.below ⟨rfl, rfl, rfl, Nat.le_refl _, fun _ _ => rfl⟩
          obtain ⟨z0, z1, z2⟩ := cells_3 H3.out.pn
          have HHP : Hid (∀ w', Below w.heap.size w w' → Calls Tryz.prog 60 #[.slice (some ⟨b, o, none⟩) (m + 1) c, .string n.p] w' fun e w'' => e = .returned (.bool (hasP l (upP n.p))) ∧ Below w'.heap.size w' w'') := fun w' hb => by
            have := hasParent_any (some ⟨b, o, none⟩) c l n.p w' (HG.out.below hb) (HSS.out.below hb) (by rw [HLE.out]; exact hl) HOK.out HASC.out
            rw [HLE.out] at this
            exact this
          clear hr y0 y1 y2 x0 x1 x2
          by_cases hneg : r < 0
          · go_wp2_with fail
            refine (HHP.out _ H3.out.low).mono ?_
            rintro e w4 ⟨rfl, hb4⟩
            have HB4 : Hid (Below w.heap.size w w4) := trans2 H3.out.low hb4
            clear hb4
            go_wp2_with fail
            go_ret
            exact ⟨by rw [HM.out, HRO.out, decide_eq_true hneg, Bool.true_and]; rfl, HB4.out⟩
          · go_wp2_with fail
            go_ret
            exact ⟨by rw [HM.out, HRO.out, decide_eq_false (show ¬ r < 0 by omega), Bool.false_and]; rfl, H3.out.low⟩
end Go.Proofs.YtbamkdohaofgdaaGreatDoor
