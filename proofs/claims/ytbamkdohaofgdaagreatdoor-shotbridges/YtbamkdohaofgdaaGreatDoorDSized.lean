import Derived.Test.YtbamkdohaofgdaaGreatDoorDChange
import Derived.Test.YtbamkdohaofgdaaGreatDoorDBase
import Derived.Shelf.SlicesQ.Reverse
import Derived.Test.YtbamkdohaofgdaaGreatDoorCGood
namespace Go.Proofs.YtbamkdohaofgdaaGreatDoor
open Go.RowKit
set_option linter.unusedVariables false
set_option linter.unusedSimpArgs false

theorem Ss.drop {w : World} {a : Option Addr} {l : List SeenT} (h : Ss w a l) {b o : Nat} (ha : a = some ⟨b, o, none⟩) (k : Nat) : Ss w (some ⟨b, o + k * 3, none⟩) (l.drop k) := by
  rcases h with rfl | ⟨b', o', ha', hlt, hs⟩
  · exact .inl (by simp)
  · rw [ha] at ha'
    cases ha'
    refine .inr ⟨b, o + k * 3, rfl, hlt, fun i s hi j x hx => ?_⟩
    rw [List.getElem?_drop] at hi
    have := hs (k + i) s hi j x hx
    rw [← this]
    congr 2
    omega
/-- The rest of a list of nodes from k on. -/
theorem sliceS (a : Option Addr) (n k c : Nat) (l : List SeenT) (w : World) (hk : k ≤ n) (hn : n ≤ c) (h0 : a = none → c = 0) (hs : Ss w a l) (hl : l.length = n) :
    ∃ a' m c', (∀ w', (Instr.sliceAt 22 (.slice a n c) (some (.int .i64 k)) none none).run Tryz.prog w' = .ok (.slice a' m c') w') ∧ Ss w a' (l.drop k) ∧ (l.drop k).length = m ∧ m ≤ c' ∧ (a' = none → c' = 0) := by
  have a1 : Tryz.prog.underlying 22 = some (.slice 52) := Tryz.underlying22
  have hd : (l.drop k).length = n - k := by rw [List.length_drop, hl]
  cases a with
  | none =>
    obtain rfl := h0 rfl
    obtain rfl : n = 0 := by omega
    obtain rfl : k = 0 := by omega
    refine ⟨none, 0, 0, fun w' => ?_, by simpa using hs, by simpa using hl, Nat.le_refl _, fun _ => rfl⟩
    simp [Instr.sliceAt, Instr.sliceBounds, go_sem, a1, Tryz.sizeOf52]
  | some ad =>
    have h1 : (k : Int) ≤ n := by omega
    have h2 : (n : Int) ≤ c := by omega
    by_cases hkc : k = c
    · refine ⟨some ad, n - k, c - k, fun w' => ?_, .inl (List.drop_of_length_le (by omega)), hd, by omega, fun h => by cases h⟩
      have h3 : c - k = 0 := by omega
      simp [Instr.sliceAt, Instr.sliceBounds, go_sem, a1, Tryz.sizeOf52, hk, hn, h1, h2, h3, hkc]
      intro h
      omega
    · have h3 : c - k ≠ 0 := by omega
      have h4 : ¬ c = k := by omega
      have hr : ∀ w', (Instr.sliceAt 22 (.slice (some ad) n c) (some (.int .i64 k)) none none).run Tryz.prog w' = .ok (.slice (some (ad.add (k * 3))) (n - k) (c - k)) w' := fun w' => by
        simp [Instr.sliceAt, Instr.sliceBounds, go_sem, a1, Tryz.sizeOf52, hk, hn, h1, h2, h3, hkc, h4]
      refine ⟨some (ad.add (k * 3)), n - k, c - k, hr, ?_, hd, by omega, fun h => by cases h⟩
      rcases hs with h5 | ⟨b, o, ha, hlt, h6⟩
      · subst h5
        exact .inl (by simp)
      · cases ha
        rw [addr_add]
        exact Ss.drop (.inr ⟨b, o, rfl, hlt, h6⟩) rfl k
def lenV : Value → Nat
  | .slice _ n _ => n
  | _ => 0
/-- How the second list stands. -/
structure BI (w : World) (lb : List SeenT) (j : Nat) (ab : Option Addr) (m cb : Nat) : Prop where
  ss : Ss w ab (lb.drop j)
  len : (lb.drop j).length = m
  cap : m ≤ cb
  nil : ab = none → cb = 0
  le : j ≤ lb.length
theorem grown_other4 {w w' : World} {base e s n b : Nat} {v : Value} {xs : List Value} {o : Obj} {cs : Array Value} {t : TypeId} (hr : w.ownsRow base e s v n xs) (hg : (w.alloc o).grownBy w' v.ownBlock) (h : w.heap[b]? = some (.cells cs t (0, 0))) (ht : t ≠ e) : w'.heap[b]? = some (.cells cs t (0, 0)) := by
  rw [hg.block b (by simp; have := lt_of_blk h; omega) (fun he => ?_)]
  · exact new_old h _
  · obtain ⟨cur, hc⟩ := owns_kind hr he.symm
    rw [h] at hc
    injection hc with hc
    injection hc with _ h2 _
    exact ht h2
theorem goneL_len (a b : List SeenT) : (goneL a b).length ≤ a.length := by
  induction a with
  | nil => exact Nat.le_refl _
  | cons s a ih =>
    have e : goneL (s :: a) b = gone1 b s ++ goneL a b := by simp [goneL]
    have : (gone1 b s).length ≤ 1 := by unfold gone1; split <;> simp
    rw [e, List.length_append, List.length_cons]
    omega
theorem turnL_len (a b : List SeenT) : (turnL a b).length ≤ b.length := by
  induction b with
  | nil => exact Nat.le_refl _
  | cons s b ih =>
    have e : turnL a (s :: b) = turn1 a s ++ turnL a b := by simp [turnL]
    have : (turn1 a s).length ≤ 1 := by
      unfold turn1
      split
      · simp
      · split <;> simp
    rw [e, List.length_append, List.length_cons]
    omega
theorem O_eq {x y : ByteArray} (h : O x y = 1) : O y x = -1 := by rw [O_anti, h]
set_option maxHeartbeats 12800000 in
set_option maxRecDepth 100000 in
theorem parting_any (a b : Option Addr) (c d n m : Nat) (la lb : List SeenT) (w : World) (hsa : Ss w a la) (hsb : Ss w b lb) (hna : la.length = n) (hnb : lb.length = m) (hca : n ≤ c) (hcb : m ≤ d) (h0a : a = none → c = 0) (h0b : b = none → d = 0) (hl : n ≤ 64) (hm : m ≤ 64) (aa : Asc la) (ab : Asc lb) (oka : ∀ x ∈ la, x.p.size ≤ 1000 ∧ x.d.size ≤ 1000) (okb : ∀ x ∈ lb, x.p.size ≤ 1000 ∧ x.d.size ≤ 1000) :
    Calls Tryz.prog 15 #[.slice a n c, .slice b m d] w fun e w' => ∃ vg vt, e = .returned (.tuple #[vg, vt]) ∧ PS w w' vg vt (goneL la lb) (turnL la lb) := by
  have HSA : Hid (Ss w a la) := hsa
  have HNA : Hid (la.length = n) := hna
  have HAA : Hid (Asc la) := aa
  have HAB : Hid (Asc lb) := ab
  have HOKA : Hid (∀ x ∈ la, x.p.size ≤ 1000 ∧ x.d.size ≤ 1000) := oka
  have HOKB : Hid (∀ x ∈ lb, x.p.size ≤ 1000 ∧ x.d.size ≤ 1000) := okb
  have HMM : Hid (lb.length ≤ 64) := by show _ ≤ _; rw [hnb]; exact hm
  have H0A : Hid (a = none → c = 0) := h0a
  have HBI0 : Hid (BI w lb 0 b m d) := ⟨by simpa using hsb, by simpa using hnb, hcb, h0b, Nat.zero_le _⟩
  clear hsa hsb hna hnb aa ab oka okb h0a h0b hm hcb
  go_enter Tryz.func15, Tryz.ntmps15
  go_wp2_with fail
  go_step3
  go_wp2_with fail
  go_step3
  go_wp2_with fail
  go_loopw [1, 4, 5, 12] (fun vb vg vt i wr => ∃ (q j m' cb' : Nat) (ab' : Option Addr) (G T : List ChT), vb = .slice ab' m' cb' ∧ i = .int .i64 q ∧ q ≤ n ∧ Hid (BI w lb j ab' m' cb') ∧ Hid (Along la lb q j) ∧ Hid (G = goneL (la.take q) lb) ∧ Hid (T = turnL la (lb.take j)) ∧ Hid (PS w wr vg vt G T)) (fun _ _ _ i _ => n - (intOf i).toNat)
  case atStart => exact ⟨0, 0, m, d, b, [], [], rfl, rfl, Nat.zero_le _, HBI0, Along.start _ _, rfl, rfl, ⟨World.ownsRow_nil _ _ _ _, World.ownsRow_nil _ _ _ _, (fun k h => by cases h), Below.refl _ _⟩⟩
  case round =>
    obtain ⟨q, j, m', cb', ab', G, T, rfl, rfl, hq, HBI, HAL, HGE, HTE, HPS⟩ := hrel
    have HGL : Hid (G.length ≤ 64) := by
      show _ ≤ _
      rw [HGE.out]
      refine Nat.le_trans (goneL_len _ _) ?_
      rw [List.length_take, HNA.out]
      omega
    obtain ⟨wo, hwo⟩ : ∃ x, x = wr := ⟨wr, rfl⟩
    subst hwo
    obtain ⟨g4, hg4⟩ : ∃ x, x = u4 := ⟨u4, rfl⟩
    subst hg4
    obtain ⟨t5, ht5⟩ : ∃ x, x = u5 := ⟨u5, rfl⟩
    subst ht5
    by_cases hlt : q < n
    · have hlt' : (q : Int) < (n : Int) := by omega
      obtain ⟨x, hx⟩ : ∃ x, la[q]? = some x := ⟨la[q]'(by rw [HNA.out]; exact hlt), List.getElem?_eq_getElem _⟩
      obtain ⟨ba, oa, hba, hbl, x0, x1, x2⟩ := (HSA.out.below HPS.out.low).at hx
      subst hba
      have HX : Hid (la[q]? = some x) := hx
      have HXO : Hid (x.p.size ≤ 1000 ∧ x.d.size ≤ 1000) := HOKA.out x (List.mem_of_getElem? hx)
      have HBX1 : Hid ((wo.alloc (.cells (seC x) 52)).heap[wo.heap.size]? = some (.cells (seC x) 52 (0, 0))) := heap_alloc_new _ _
      have HP1 : Hid (PS w (wo.alloc (.cells (seC x) 52)) g4 t5 G T) := HPS.out.below ((Below.refl _ _).alloc (Nat.le_refl _) _)
      obtain ⟨C3, hC3⟩ : ∃ C, chC 3 x = C := ⟨_, rfl⟩
      have HC3 : Hid (chC 3 x = C3) := hC3
      have HCH3 : Hid (∀ w, Calls Tryz.prog 34 #[.int .i64 3, .agg (seC x)] w fun e w' => e = .returned (.agg (chA C3)) ∧ Below w.heap.size w w') := fun w => by
        have := change_any 3 x w (by have := HXO.out; omega) (by have := HXO.out; omega)
        rw [hC3] at this
        exact this
      obtain ⟨sa, sm, sc, hsl, hss, hslen, hscap, hsnil⟩ := sliceS (some ⟨ba, oa, none⟩) n q c la w (by omega) hca H0A.out HSA.out HNA.out
      have HSL : Hid (∀ w', (Instr.sliceAt 22 (.slice (some ⟨ba, oa, none⟩) n c) (some (.int .i64 q)) none none).run Tryz.prog w' = .ok (.slice sa sm sc) w') := hsl
      have HSS : Hid (Ss w sa (la.drop q)) := hss
      have HSM : Hid ((la.drop q).length = sm) := hslen
      clear hx hC3 hsl hss hslen hscap hsnil
      go_wp2_with fail
      clear x0 x1 x2
      go_loopw [1, 4, 5] (fun vb vg vt wi => ∃ (j m' cb' : Nat) (ab' : Option Addr) (T : List ChT), vb = .slice ab' m' cb' ∧ Hid (BI w lb j ab' m' cb') ∧ Hid (Along la lb q j) ∧ Hid (T = turnL la (lb.take j)) ∧ Hid (PS w wi vg vt G T) ∧ Hid (wi.heap[wo.heap.size]? = some (.cells (seC x) 52 (0, 0)))) (fun vb _ _ _ => lenV vb)
      case atStart => exact ⟨j, m', cb', ab', T, rfl, HBI, HAL, HTE, HP1, HBX1⟩
      case round =>
        clear HBI HAL HTE HPS HP1 HBX1
        obtain ⟨j, m', cb', ab', T, rfl, HBI, HAL, HTE, HPS, HBX⟩ := hrel
        have HTL : Hid (T.length ≤ 64) := by
          show _ ≤ _
          rw [HTE.out]
          refine Nat.le_trans (turnL_len _ _) ?_
          rw [List.length_take]
          have := HMM.out
          omega
        by_cases hm0 : m' = 0
        · subst hm0
          have hsl := HSL.out
          have HJ : Hid (j = lb.length) := by
            have h1 := HBI.out.len
            have h2 := HBI.out.le
            rw [List.length_drop] at h1
            show _ = _
            omega
          go_wp2_with fail
          refine (changesOf_any 3 sa sc sm (la.drop q) _ (HSS.out.below HPS.out.low) HSM.out (by have := HSM.out; rw [List.length_drop, HNA.out] at this; omega) (fun y hy => HOKA.out y (List.mem_of_mem_drop hy))).mono ?_
          rintro e w6 ⟨v6, rfl, ho6, hb6⟩
          have HP6 : Hid (PS w w6 u4 u5 G T) := HPS.out.below hb6
          obtain ⟨a6, c6, rfl, hn6⟩ := owns_form ho6
          have HH6 : Hid (Hs w6 a6 ((la.drop q).map (chC 3))) := hs_of_row ho6
          have HN6 : Hid (a6 = none → c6 = 0) := hn6
          have HL6 : Hid (sm = ((la.drop q).map (chC 3)).length) := by show _ = _; rw [List.length_map]; exact HSM.out.symm
          clear ho6 hb6 hn6
          go_wp2_with (first
            | (at_builtin; refine wpList_appC rfl _ _ rfl w.heap.size u4 G.length (chCs G) rfl HP6.out.g a6 sm c6 ((la.drop q).map (chC 3)) rfl HL6.out HH6.out HN6.out (by have h3 := HGL.out; have h1 := HSM.out; rw [List.length_drop, HNA.out] at h1; rw [← HL6.out]; omega) HP6.out.low.size ?_
               intro v7 w7 ho hg hat
               have HP7 : Hid (PS w w7 v7 u5 (G ++ (la.drop q).map (chC 3)) T) := by
                 refine PS.gone HP6.out ?_ hg hat
                 rw [List.length_append, chCs_append]
                 exact ho
               clear ho hg hat hsl)
            | fail)
          refine (changesOf_any 1 _ _ _ (lb.drop j) w7 (HBI.out.ss.below HP7.out.low) HBI.out.len (by have h1 := HBI.out.len; have h2 := HMM.out; rw [List.length_drop] at h1; omega) (fun x hx => HOKB.out x (List.mem_of_mem_drop hx))).mono ?_
          rintro e w8 ⟨v8, rfl, ho8, hb8⟩
          have HP8 : Hid (PS w w8 v7 u5 (G ++ (la.drop q).map (chC 3)) T) := HP7.out.below hb8
          obtain ⟨a8, c8, rfl, hn8⟩ := owns_form ho8
          have HH8 : Hid (Hs w8 a8 ((lb.drop j).map (chC 1))) := hs_of_row ho8
          have HN8 : Hid (a8 = none → c8 = 0) := hn8
          have HL8 : Hid (0 = ((lb.drop j).map (chC 1)).length) := by show _ = _; rw [List.length_map]; exact HBI.out.len.symm
          clear ho8 hb8 hn8
          go_wp2_with (first
            | (at_builtin; refine wpList_appC rfl _ _ rfl w.heap.size u5 T.length (chCs T) rfl HP8.out.t a8 0 c8 ((lb.drop j).map (chC 1)) rfl HL8.out HH8.out HN8.out (by have h3 := HTL.out; have h2 := HMM.out; have h1 := HBI.out.len; rw [List.length_drop] at h1; rw [← HL8.out]; omega) HP8.out.low.size ?_
               intro v9 w9 ho hg hat
               have HP9 : Hid (PS w w9 v7 v9 (G ++ (la.drop q).map (chC 3)) (T ++ (lb.drop j).map (chC 1))) := by
                 refine PS.turned HP8.out ?_ hg hat
                 rw [List.length_append, chCs_append]
                 exact ho
               clear ho hg hat)
            | fail)
          try rw [Exit.noGoto_ret]
          go_ret2
          have hAL := HAL.out
          rw [HJ.out] at hAL
          have hfin := hAL.gone
          refine ⟨v7, v9, rfl, ?_⟩
          have h9 := HP9.out
          rw [HGE.out, ← hfin.1, HTE.out, HJ.out, hfin.2, List.drop_of_length_le (Nat.le_refl _), List.map_nil, List.append_nil] at h9
          exact h9
        · have hmI : ((m' : Int) == 0) = false := by simp; omega
          obtain ⟨y, hy⟩ : ∃ y, (lb.drop j)[0]? = some y := ⟨(lb.drop j)[0]'(by rw [HBI.out.len]; omega), List.getElem?_eq_getElem _⟩
          have HY : Hid (lb[j]? = some y) := by
            show _ = _
            rw [List.getElem?_drop] at hy
            simpa using hy
          obtain ⟨bb, ob, hbb, hbl2, y0, y1, y2⟩ := (HBI.out.ss.below HPS.out.low).at hy
          subst hbb
          simp only [Nat.zero_mul, Nat.add_zero] at y0 y1 y2
          have HYO : Hid (y.p.size ≤ 1000 ∧ y.d.size ≤ 1000) := HOKB.out y (List.mem_of_getElem? HY.out)
          obtain ⟨sb, sm2, sc2, hsl2, hss2, hslen2, hscap2, hsnil2⟩ := sliceS (some ⟨bb, ob, none⟩) m' 1 cb' (lb.drop j) w (by omega) HBI.out.cap HBI.out.nil HBI.out.ss HBI.out.len
          have HBI2 : Hid (BI w lb (j + 1) sb sm2 sc2) := by
            rw [List.drop_drop] at hss2 hslen2
            exact ⟨hss2, hslen2, hscap2, hsnil2, by have := (List.getElem?_eq_some_iff.1 HY.out).1; omega⟩
          have HSL2 : Hid (∀ w', (Instr.sliceAt 22 (.slice (some ⟨bb, ob, none⟩) m' cb') (some (.int .i64 1)) none none).run Tryz.prog w' = .ok (.slice sb sm2 sc2) w') := hsl2
          have HMS : Hid (sm2 + 1 = m') := by
            show _ = _
            have h1 := HBI.out.len
            have h2 := HBI2.out.len
            rw [List.length_drop] at h1 h2
            omega
          have hmpos : (0 : Int) < (m' : Int) := by omega
          have HBX2 : Hid ((wr.alloc (.cells (seC y) 52)).heap[wo.heap.size]? = some (.cells (seC x) 52 (0, 0))) := new_old HBX.out _
          have HBY2 : Hid ((wr.alloc (.cells (seC y) 52)).heap[wr.heap.size]? = some (.cells (seC y) 52 (0, 0))) := heap_alloc_new _ _
          have HP2 : Hid (PS w (wr.alloc (.cells (seC y) 52)) u4 u5 G T) := HPS.out.below ((Below.refl _ _).alloc (Nat.le_refl _) _)
          have HOR : Hid (∀ w, Calls Tryz.prog 33 #[.string x.p, .string y.p] w fun e w' => e = .returned (.int .i64 (O x.p y.p)) ∧ Below w.heap.size w w') := fun w => (order_O x.p y.p (by have := HXO.out; unfold maxLen; omega) (by have := HYO.out; unfold maxLen; omega) w).mono (fun e w' h => ⟨h.1, by obtain ⟨k, rfl⟩ := h.2; exact below_drewN (Below.refl _ _) k⟩)
          have HXC : Hid ((wr.alloc (.cells (seC y) 52)).cell? ⟨wo.heap.size, 0, none⟩ = some (.string x.p)) := (cells_3 HBX2.out).1
          have x0 := HXC.out
          clear hy hsl2 hss2 hslen2 hscap2 hsnil2
          rcases O_range x.p y.p with ho | ho | ho
          · rw [ho] at HOR
            have HLS : Hid (O x.p y.p = -1) := ho
            clear ho
            go_wp2_with fail
            clear x0 y0 y1 y2
            refine (HOR.out _).mono ?_
            rintro e w3 ⟨rfl, hb3⟩
            have HP3 : Hid (PS w w3 u4 u5 G T) := HP2.out.below hb3
            have HBX3 : Hid (w3.heap[wo.heap.size]? = some (.cells (seC x) 52 (0, 0))) := kept_block hb3 HBX2.out
            have HBY3 : Hid (w3.heap[wr.heap.size]? = some (.cells (seC y) 52 (0, 0))) := kept_block hb3 HBY2.out
            obtain ⟨x0, x1, x2⟩ := cells_3 HBX3.out
            obtain ⟨y0, y1, y2⟩ := cells_3 HBY3.out
            clear hb3
            go_wp2_with fail
            refine (HCH3.out _).mono ?_
            rintro e w4 ⟨rfl, hb4⟩
            have HP4 : Hid (PS w w4 u4 u5 G T) := HP3.out.below hb4
            clear hb4 x0 x1 x2 y0 y1 y2
            go_wp2_with (first
              | (at_builtin; refine wpList_appC rfl _ _ rfl w.heap.size u4 G.length (chCs G) rfl (World.ownsRow.alloc HP4.out.g _) (some ⟨w4.heap.size, 0, none⟩) 1 1 [C3] rfl rfl (hs_one (heap_alloc_new _ _)) (fun h => by cases h) (by have := HGL.out; simp; omega) (by have := HP4.out.low.size; simp; omega) ?_
                 intro v5 w5 ho hg hat
                 have HP5 : Hid (PS w w5 v5 u5 (G ++ [C3]) (T)) := by
                   refine PS.gone (HP4.out.below ((Below.refl _ _).alloc (Nat.le_refl _) _)) ?_ hg hat
                   rw [List.length_append, chCs_append]
                   exact ho
                 clear ho hg hat)
              | fail)
            have hst := HAL.out.less HAB.out HAA.out HX.out HY.out HLS.out
            go_roundw
            case rel =>
              refine ⟨q + 1, j, m', cb', some ⟨bb, ob, none⟩, G ++ [C3], T, rfl, by go_num, by omega, HBI, hst.1, ?_, HTE, HP5⟩
              show _ = _
              rw [goneL_snoc HX.out, hst.2, HC3.out, HGE.out]
            case measure => simp [intOf]; omega
          · rw [ho] at HOR
            have hpe : x.p = y.p := O_zero ho
            have HPE : Hid (x.p = y.p) := hpe
            clear ho
            by_cases hxy : x = y
            · have hst := HAL.out.same HAB.out HAA.out HX.out HY.out hpe
              have HST : Hid _ := hst
              have HXY : Hid (x = y) := hxy
              clear hst hxy hpe
              go_wp2_with fail
              clear x0 y0 y1 y2
              refine (HOR.out _).mono ?_
              rintro e w3 ⟨rfl, hb3⟩
              have HP3 : Hid (PS w w3 u4 u5 G T) := HP2.out.below hb3
              have HBX3 : Hid (w3.heap[wo.heap.size]? = some (.cells (seC x) 52 (0, 0))) := kept_block hb3 HBX2.out
              have HBY3 : Hid (w3.heap[wr.heap.size]? = some (.cells (seC y) 52 (0, 0))) := kept_block hb3 HBY2.out
              obtain ⟨x0, x1, x2⟩ := cells_3 HBX3.out
              obtain ⟨y0, y1, y2⟩ := cells_3 HBY3.out
              clear hb3
              rw [← HXY.out] at y0 y1 y2
              have hsl2 := HSL2.out
              go_wp2_with fail
              clear hsl2 x0 x1 x2 y0 y1 y2
              go_roundw
              case rel =>
                refine ⟨q + 1, j + 1, sm2, sc2, sb, G, T, rfl, by go_num, by omega, HBI2, HST.out.1, ?_, ?_, HP3⟩
                · show _ = _
                  rw [goneL_snoc HX.out, HST.out.2.1, List.append_nil, HGE.out]
                · show _ = _
                  rw [turnL_snoc HY.out, HST.out.2.2, if_neg (by rw [neB_not.2 HXY.out]; simp), List.append_nil, HTE.out]
              case measure => simp [intOf]; omega
            · have hst := HAL.out.same HAB.out HAA.out HX.out HY.out hpe
              have HST : Hid _ := hst
              have HXY : Hid (x ≠ y) := hxy
              clear hst hxy hpe
              obtain ⟨C2, hC2⟩ : ∃ C, chC 2 y = C := ⟨_, rfl⟩
              have HC2 : Hid (chC 2 y = C2) := hC2
              have HCH2 : Hid (∀ w, Calls Tryz.prog 34 #[.int .i64 2, .agg (seC y)] w fun e w' => e = .returned (.agg (chA C2)) ∧ Below w.heap.size w w') := fun w => by
                have := change_any 2 y w (by have := HYO.out; omega) (by have := HYO.out; omega)
                rw [hC2] at this
                exact this
              clear hC2
              go_wp2_with fail
              clear x0 y0 y1 y2
              refine (HOR.out _).mono ?_
              rintro e w3 ⟨rfl, hb3⟩
              have HP3 : Hid (PS w w3 u4 u5 G T) := HP2.out.below hb3
              have HBX3 : Hid (w3.heap[wo.heap.size]? = some (.cells (seC x) 52 (0, 0))) := kept_block hb3 HBX2.out
              have HBY3 : Hid (w3.heap[wr.heap.size]? = some (.cells (seC y) 52 (0, 0))) := kept_block hb3 HBY2.out
              obtain ⟨x0, x1, x2⟩ := cells_3 HBX3.out
              obtain ⟨y0, y1, y2⟩ := cells_3 HBY3.out
              clear hb3
              have hsl2 := HSL2.out
              rw [HPE.out] at x0
              rcases seen_ne HXY.out with h1 | ⟨h0, h1⟩ | ⟨h0, h0', h1⟩
              · exact absurd HPE.out (fun e => by rw [e] at h1; simp at h1)
              · clear h0
                go_wp2_with fail
                clear x0 x1 x2 y0 y1 y2
                refine (HCH2.out _).mono ?_
                rintro e w4 ⟨rfl, hb4⟩
                have HP4 : Hid (PS w w4 u4 u5 G T) := HP3.out.below hb4
                clear hb4 hsl2
                go_wp2_with (first
                  | (at_builtin; refine wpList_appC rfl _ _ rfl w.heap.size u5 T.length (chCs T) rfl (World.ownsRow.alloc HP4.out.t _) (some ⟨w4.heap.size, 0, none⟩) 1 1 [C2] rfl rfl (hs_one (heap_alloc_new _ _)) (fun h => by cases h) (by have := HTL.out; simp; omega) (by have := HP4.out.low.size; simp; omega) ?_
                     intro v5 w5 ho hg hat
                     have HP5 : Hid (PS w w5 u4 v5 (G) (T ++ [C2])) := by
                       refine PS.turned (HP4.out.below ((Below.refl _ _).alloc (Nat.le_refl _) _)) ?_ hg hat
                       rw [List.length_append, chCs_append]
                       exact ho
                     clear ho hg hat)
                  | fail)
                go_roundw
                case rel =>
                  refine ⟨q + 1, j + 1, sm2, sc2, sb, G, T ++ [C2], rfl, by go_num, by omega, HBI2, HST.out.1, ?_, ?_, HP5⟩
                  · show _ = _
                    rw [goneL_snoc HX.out, HST.out.2.1, List.append_nil, HGE.out]
                  · show _ = _
                    rw [turnL_snoc HY.out, HST.out.2.2, if_pos (neB_iff.2 HXY.out), HC2.out, HTE.out]
                case measure => simp [intOf]; omega
              · clear h0
                rw [h0'] at x1
                clear h0'
                go_wp2_with fail
                clear x0 x1 x2 y0 y1 y2
                refine (HCH2.out _).mono ?_
                rintro e w4 ⟨rfl, hb4⟩
                have HP4 : Hid (PS w w4 u4 u5 G T) := HP3.out.below hb4
                clear hb4 hsl2
                go_wp2_with (first
                  | (at_builtin; refine wpList_appC rfl _ _ rfl w.heap.size u5 T.length (chCs T) rfl (World.ownsRow.alloc HP4.out.t _) (some ⟨w4.heap.size, 0, none⟩) 1 1 [C2] rfl rfl (hs_one (heap_alloc_new _ _)) (fun h => by cases h) (by have := HTL.out; simp; omega) (by have := HP4.out.low.size; simp; omega) ?_
                     intro v5 w5 ho hg hat
                     have HP5 : Hid (PS w w5 u4 v5 (G) (T ++ [C2])) := by
                       refine PS.turned (HP4.out.below ((Below.refl _ _).alloc (Nat.le_refl _) _)) ?_ hg hat
                       rw [List.length_append, chCs_append]
                       exact ho
                     clear ho hg hat)
                  | fail)
                go_roundw
                case rel =>
                  refine ⟨q + 1, j + 1, sm2, sc2, sb, G, T ++ [C2], rfl, by go_num, by omega, HBI2, HST.out.1, ?_, ?_, HP5⟩
                  · show _ = _
                    rw [goneL_snoc HX.out, HST.out.2.1, List.append_nil, HGE.out]
                  · show _ = _
                    rw [turnL_snoc HY.out, HST.out.2.2, if_pos (neB_iff.2 HXY.out), HC2.out, HTE.out]
                case measure => simp [intOf]; omega
          · rw [ho] at HOR
            have HLS : Hid (O y.p x.p = -1) := O_eq ho
            clear ho
            obtain ⟨C1, hC1⟩ : ∃ C, chC 1 y = C := ⟨_, rfl⟩
            have HC1 : Hid (chC 1 y = C1) := hC1
            have HCH1 : Hid (∀ w, Calls Tryz.prog 34 #[.int .i64 1, .agg (seC y)] w fun e w' => e = .returned (.agg (chA C1)) ∧ Below w.heap.size w w') := fun w => by
              have := change_any 1 y w (by have := HYO.out; omega) (by have := HYO.out; omega)
              rw [hC1] at this
              exact this
            clear hC1
            go_wp2_with fail
            clear x0 y0 y1 y2
            refine (HOR.out _).mono ?_
            rintro e w3 ⟨rfl, hb3⟩
            have HP3 : Hid (PS w w3 u4 u5 G T) := HP2.out.below hb3
            have HBX3 : Hid (w3.heap[wo.heap.size]? = some (.cells (seC x) 52 (0, 0))) := kept_block hb3 HBX2.out
            have HBY3 : Hid (w3.heap[wr.heap.size]? = some (.cells (seC y) 52 (0, 0))) := kept_block hb3 HBY2.out
            obtain ⟨x0, x1, x2⟩ := cells_3 HBX3.out
            obtain ⟨y0, y1, y2⟩ := cells_3 HBY3.out
            clear hb3
            have hsl2 := HSL2.out
            go_wp2_with fail
            clear x0 x1 x2 y0 y1 y2 hsl2
            refine (HCH1.out _).mono ?_
            rintro e w4 ⟨rfl, hb4⟩
            have HP4 : Hid (PS w w4 u4 u5 G T) := HP3.out.below hb4
            have HBX4 : Hid (w4.heap[wo.heap.size]? = some (.cells (seC x) 52 (0, 0))) := kept_block hb4 HBX3.out
            clear hb4
            go_wp2_with (first
              | (at_builtin; refine wpList_appC rfl _ _ rfl w.heap.size u5 T.length (chCs T) rfl (World.ownsRow.alloc HP4.out.t _) (some ⟨w4.heap.size, 0, none⟩) 1 1 [C1] rfl rfl (hs_one (heap_alloc_new _ _)) (fun h => by cases h) (by have := HTL.out; simp; omega) (by have := HP4.out.low.size; simp; omega) ?_
                 intro v5 w5 ho hg hat
                 have HP5 : Hid (PS w w5 u4 v5 (G) (T ++ [C1])) := by
                   refine PS.turned (HP4.out.below ((Below.refl _ _).alloc (Nat.le_refl _) _)) ?_ hg hat
                   rw [List.length_append, chCs_append]
                   exact ho
                 have HBX5 : Hid (w5.heap[wo.heap.size]? = some (.cells (seC x) 52 (0, 0))) := grown_other4 HP4.out.t hg HBX4.out (by decide)
                 clear ho hg hat)
              | fail)
            have hst := HAL.out.more HAB.out HAA.out HX.out HY.out HLS.out
            go_roundw
            case rel =>
              refine ⟨j + 1, sm2, sc2, sb, T ++ [C1], rfl, HBI2, hst.1, ?_, HP5, HBX5⟩
              show _ = _
              rw [turnL_snoc HY.out, hst.2, HC1.out, HTE.out]
            case measure => have := HMS.out; simp only [lenV]; omega
    · obtain rfl : q = n := by omega
      have hge : ¬ (q : Int) < (q : Int) := by omega
      have HTL : Hid (T.length ≤ 64) := by
        show _ ≤ _
        rw [HTE.out]
        refine Nat.le_trans (turnL_len _ _) ?_
        rw [List.length_take]
        have := HMM.out
        omega
      go_wp2_with fail
      refine (changesOf_any 1 _ _ _ (lb.drop j) wo (HBI.out.ss.below HPS.out.low) HBI.out.len (by have h1 := HBI.out.len; have h2 := HMM.out; rw [List.length_drop] at h1; omega) (fun x hx => HOKB.out x (List.mem_of_mem_drop hx))).mono ?_
      rintro e w8 ⟨v8, rfl, ho8, hb8⟩
      have HP8 : Hid (PS w w8 g4 t5 G T) := HPS.out.below hb8
      obtain ⟨a8, c8, rfl, hn8⟩ := owns_form ho8
      have HH8 : Hid (Hs w8 a8 ((lb.drop j).map (chC 1))) := hs_of_row ho8
      have HN8 : Hid (a8 = none → c8 = 0) := hn8
      have HL8 : Hid (m' = ((lb.drop j).map (chC 1)).length) := by show _ = _; rw [List.length_map]; exact HBI.out.len.symm
      clear ho8 hb8 hn8
      go_wp2_with (first
        | (at_builtin; refine wpList_appC rfl _ _ rfl w.heap.size t5 T.length (chCs T) rfl HP8.out.t a8 m' c8 ((lb.drop j).map (chC 1)) rfl HL8.out HH8.out HN8.out (by have h3 := HTL.out; have h2 := HMM.out; have h1 := HBI.out.len; rw [List.length_drop] at h1; rw [← HL8.out]; omega) HP8.out.low.size ?_
           intro v9 w9 ho hg hat
           have HP9 : Hid (PS w w9 g4 v9 G (T ++ (lb.drop j).map (chC 1))) := by
             refine PS.turned HP8.out ?_ hg hat
             rw [List.length_append, chCs_append]
             exact ho
           clear ho hg hat)
        | fail)
      try rw [Exit.noGoto_ret]
      go_ret2
      have hAL := HAL.out
      rw [← HNA.out] at hAL
      have hfin := hAL.made
      refine ⟨g4, v9, rfl, ?_⟩
      have h9 := HP9.out
      rw [HGE.out, ← HNA.out, hfin.2, HTE.out, ← hfin.1] at h9
      exact h9
end Go.Proofs.YtbamkdohaofgdaaGreatDoor
namespace Go.Proofs
open Go.Shelf
def Tryz.revC_ren : Go.Shelf.Ren := ⟨fun | 35 => 16 | n => n, fun | 0 => 0 | 3 => 3 | 4 => 4 | 22 => 27 | 23 => 46 | n => n, fun | n => n⟩
theorem Tryz.revC : Go.Proofs.SlLaysE0.n35 Tryz.prog Tryz.revC_ren := {
  mixed := by kernel_rfl
  f35 := ⟨Tryz.f16.name, by decide, Tryz.func16.trans (congrArg some (by kernel_rfl))⟩
  t0 := Tryz.underlying0
  a0 := Tryz.isAgg0
  z0 := Tryz.sizeOf0
  v0 := Tryz.zeroValue0
  t3 := Tryz.underlying3
  a3 := Tryz.isAgg3
  z3 := Tryz.sizeOf3
  v3 := Tryz.zeroValue3
  t4 := Tryz.underlying4
  a4 := Tryz.isAgg4
  z4 := Tryz.sizeOf4
  v4 := Tryz.zeroValue4
  t22 := Tryz.underlying27
  a22 := Tryz.isAgg27
  z22 := Tryz.sizeOf27
  v22 := Tryz.zeroValue27 }
end Go.Proofs
namespace Go.Proofs.YtbamkdohaofgdaaGreatDoor
open Go.RowKit Go.Sort
set_option linter.unusedVariables false
set_option linter.unusedSimpArgs false

abbrev TupC : Type := Int × ByteArray × ByteArray × Int
def tupC (c : ChT) : TupC := (c.k, c.p, c.d, c.v)
def encC (t : TupC) : List Value := [.int .i64 t.1, .string t.2.1, .string t.2.2.1, .int .i64 t.2.2.2]
theorem encC_tup (c : ChT) : encC (tupC c) = c.cells := rfl
theorem flat_chCs (L : List ChT) : flatK encC 4 (L.map tupC).toArray = (chCs L).toArray := by
  refine ext_get! (by simp [chCs_len]) fun t ht => ?_
  have ht' : t < (L.map tupC).toArray.size * 4 := by simpa using ht
  have htl : t < L.length * 4 := by simpa using ht'
  rw [get_flatK _ _ _ t ht']
  have hq : t / 4 < L.length := by omega
  obtain ⟨s, hs⟩ : ∃ s, L[t / 4]? = some s := ⟨L[t / 4], List.getElem?_eq_getElem hq⟩
  obtain ⟨x, hx⟩ : ∃ x, s.cells[t % 4]? = some x := ⟨s.cells[t % 4]'(by simp; omega), List.getElem?_eq_getElem _⟩
  have h1 := chCs_at L (t / 4) (t % 4) s x hs hx []
  rw [List.append_nil, show t / 4 * 4 + t % 4 = t by omega] at h1
  have h2 : (L.map tupC).toArray[t / 4]! = tupC s := by
    rw [getElem!_pos _ _ (by simpa using hq)]
    simp [(List.getElem?_eq_some_iff.1 hs).2]
  rw [h2, encC_tup]
  have h3 : (s.cells)[t % 4]! = x := by
    rw [List.getElem!_eq_getElem?_getD, hx]
    rfl
  have h4 : (chCs L).toArray[t]! = x := by
    rw [getElem!_pos _ _ (by simpa [chCs_len] using htl)]
    simpa using (List.getElem?_eq_some_iff.1 h1).2
  rw [h3, h4]
theorem owns_cells {w : World} {B e s n g cap : Nat} {xs : List Value} (h : w.ownsRow B e s (.slice (some ⟨g, 0, none⟩) n cap) n xs) : ∃ cur, w.heap[g]? = some (.cells cur e (0, 0)) ∧ B ≤ g ∧ n ≤ cap ∧ cap ≤ maxLen ∧ cur.size = cap * s ∧ cur.toList.take (n * s) = xs ∧ xs.length = n * s := by
  rcases h.2 with ⟨h0, _⟩ | ⟨g', cap', cur, hv, hB, hg, hn, hc, hsz, ht⟩
  · cases h0
  · cases hv
    exact ⟨cur, hg, hB, hn, hc, hsz, ht, h.1⟩
theorem reverse_any (base : Nat) (v : Value) (L : List ChT) (w : World) (hr : w.ownsRow base 46 4 v L.length (chCs L)) :
    Calls Tryz.prog 16 #[v] w fun e w' => e = .returned (.tuple #[]) ∧ w'.ownsRow base 46 4 v L.length (chCs L.reverse) ∧ Chg w w' (fun k => v.ownBlock = some k) := by
  obtain ⟨a, c, rfl, hnc⟩ := owns_form hr
  cases a with
  | none =>
    have h0 : L = [] := by
      rcases hs_of_row hr with h | ⟨b, o, h, _⟩
      · exact h
      · cases h
    subst h0
    refine (AnyQ.slices_Reverse_empty Tryz.revC none c w).mono ?_
    rintro e w' ⟨rfl, rfl⟩
    exact ⟨rfl, hr, Chg.refl _ _⟩
  | some ad =>
    have had : ∃ g, ad = ⟨g, 0, none⟩ := by
      rcases hr.2 with ⟨h0, _⟩ | ⟨g', cap', cur, hv, _⟩
      · cases h0
      · cases hv
        exact ⟨g', rfl⟩
    obtain ⟨g, rfl⟩ := had
    obtain ⟨cur, hg, hB, hn, hc, hsz, ht, hlen⟩ := owns_cells hr
    have hH : HoldsK encC 4 w g 0 (L.map tupC).toArray := by
      unfold HoldsK
      rw [flat_chCs]
      intro j hj
      have hj' : j < (chCs L).length := by simpa using hj
      refine ⟨?_, by simp [World.frozen?, hg]⟩
      rw [Nat.zero_add]
      have h1 : (chCs L)[j]? = some ((chCs L)[j]'hj') := List.getElem?_eq_getElem hj'
      rw [cell_n hr h1]
      simp [getElem!_pos, hj']
    have hbig : (L.map tupC).toArray.size ≤ 9223372036854775807 := by
      have : L.length ≤ maxLen := by omega
      unfold maxLen at this
      simp
      omega
    have hcall := AnyQ.slices_Reverse Tryz.revC 4 Tryz.isAgg46 Tryz.sizeOf46 encC (fun _ => rfl) (fun x v hv => by
      simp only [encC, List.mem_cons, List.not_mem_nil, or_false] at hv
      rcases hv with rfl | rfl | rfl | rfl <;> rfl) g 0 c (L.map tupC).toArray w hH hbig
    have hsize : (L.map tupC).toArray.size = L.length := by simp
    rw [hsize] at hcall
    refine Calls.mono hcall ?_
    rintro e w' ⟨rfl, m, rfl⟩
    have hrev : (L.map tupC).toArray.reverse = (L.reverse.map tupC).toArray := by simp
    have hF : flatK encC 4 (L.map tupC).toArray.reverse = (chCs L.reverse).toArray := by rw [hrev, flat_chCs]
    have hw : putRowK encC 4 (Sort.ahead w m) g 0 (L.map tupC).toArray.reverse = putRow id (Sort.ahead w m) g 0 (chCs L.reverse).toArray := by unfold putRowK; rw [hF]
    rw [hw]
    have hlr : (chCs L.reverse).length = L.length * 4 := by rw [chCs_len, List.length_reverse]
    have hheap : (putRow id (Sort.ahead w m) g 0 (chCs L.reverse).toArray).heap = w.heap.modify g (onCells (putCells id 0 (chCs L.reverse).toArray)) := rfl
    have hgn : (putRow id (Sort.ahead w m) g 0 (chCs L.reverse).toArray).heap[g]? = some (.cells (putCells id 0 (chCs L.reverse).toArray cur) 46 (0, 0)) := by
      rw [hheap, Array.getElem?_modify, if_pos rfl, hg]
      rfl
    refine ⟨rfl, ⟨hlr, .inr ⟨g, c, putCells id 0 (chCs L.reverse).toArray cur, rfl, hB, hgn, hn, hc, ?_, ?_⟩⟩, ?_⟩
    · simp [putCells, hsz]
    · apply List.ext_getElem?
      intro i
      rw [List.getElem?_take]
      split
      · rename_i hi
        have hic : i < cur.size := by rw [hsz]; have := Nat.mul_le_mul_right 4 hn; omega
        have hil : i < (chCs L.reverse).length := by omega
        rw [Array.getElem?_toList]
        unfold putCells
        rw [Array.getElem?_mapIdx, Array.getElem?_eq_getElem hic]
        simp [hil, getElem!_pos]
      · rename_i hi
        rw [List.getElem?_eq_none (by omega)]
    · refine ⟨rfl, rfl, rfl, by rw [hheap]; simp, fun k hk hn' => ?_⟩
      rw [hheap, Array.getElem?_modify, if_neg (fun e => hn' (by rw [e]; rfl))]
end Go.Proofs.YtbamkdohaofgdaaGreatDoor
namespace Go.Proofs.YtbamkdohaofgdaaGreatDoor
open Go.RowKit Classical
set_option linter.unusedVariables false
set_option linter.unusedSimpArgs false

theorem isP_size {x : ByteArray} (h : isP x = true) : x.size ≤ 102 := by
  obtain ⟨⟨c, xs⟩, hp⟩ : ∃ q, parse x = q := ⟨_, rfl⟩
  have hc : c = 0 := by have := isP_iff.1 h; rw [hp] at this; exact this
  subst hc
  have hl := parse_len hp
  rw [← parse_back hp]
  exact place_size hl.1 hl.2
structure Sized (st : Int) (p : ByteArray) (k : Int) (l : List SeenT) : Prop where
  st : 0 ≤ st ∧ st ≤ 2147483647
  p : p.size ≤ 102
  k : 1 ≤ k ∧ k ≤ 3
  len : l.length ≤ 64
  each : ∀ s ∈ l, s.p.size ≤ 1000 ∧ s.d.size ≤ 1000
  asc : Asc l
theorem sized_of_good {st : Int} {p : ByteArray} {k : Int} {l : List SeenT} (h : Good st p k l) : Sized st p k l := by
  have h1 : 0 ≤ st ∧ st ≤ 2147483647 := by have := h.1; simpa [isNum] using this
  obtain ⟨h2, h3, h4⟩ := (cov_self k p).1 h.2.1
  refine ⟨h1, isP_size h2, ⟨h3, h4⟩, h.2.2.1, fun s hs => ?_, ?_⟩
  · obtain ⟨i, hi⟩ := List.getElem?_of_mem hs
    have hm := h.2.2.2.2 i s hi
    unfold mayB at hm
    simp only [Bool.and_eq_true] at hm
    have hc := (cov_in h2 ⟨h3, h4⟩).1 hm.1.1.1
    have hf := hm.1.1.2
    unfold fitB isNum at hf
    simp only [Bool.and_eq_true, decide_eq_true_eq] at hf
    have := isP_size hc.1
    omega
  · have := asc_of_may (k := k) (p := p) (l := l) l.length (Nat.le_refl _) (fun i n _ hn => h.2.2.2.2 i n hn)
    rw [List.take_length] at this
    exact this
/-- What a Diff answers. -/
structure DRes (st : Int) (p : ByteArray) (k : Int) (la : List SeenT) (st' : Int) (p' : ByteArray) (k' : Int) (lb : List SeenT) (code : Int) (D : List ChT) : Prop where
  bad : ¬ (Good st p k la ∧ Good st' p' k' lb) → code = 51 ∧ D = []
  apart : Good st p k la → Good st' p' k' lb → ¬ (p = p' ∧ k = k') → code = 1 ∧ D = []
  all : Good st p k la → Good st' p' k' lb → p = p' → k = k' → code = 0 ∧ D = (goneL la lb).reverse ++ turnL la lb
theorem DRes.one {st : Int} {p : ByteArray} {k : Int} {la : List SeenT} {st' : Int} {p' : ByteArray} {k' : Int} {lb : List SeenT} {c c' : Int} {D D' : List ChT} (h : DRes st p k la st' p' k' lb c D) (h' : DRes st p k la st' p' k' lb c' D') : c = c' ∧ D = D' := by
  by_cases hg : Good st p k la ∧ Good st' p' k' lb
  · by_cases he : p = p' ∧ k = k'
    · have h1 := h.all hg.1 hg.2 he.1 he.2
      have h2 := h'.all hg.1 hg.2 he.1 he.2
      exact ⟨h1.1.trans h2.1.symm, h1.2.trans h2.2.symm⟩
    · have h1 := h.apart hg.1 hg.2 he
      have h2 := h'.apart hg.1 hg.2 he
      exact ⟨h1.1.trans h2.1.symm, h1.2.trans h2.2.symm⟩
  · have h1 := h.bad hg
    have h2 := h'.bad hg
    exact ⟨h1.1.trans h2.1.symm, h1.2.trans h2.2.symm⟩
theorem DRes.len {st : Int} {p : ByteArray} {k : Int} {la : List SeenT} {st' : Int} {p' : ByteArray} {k' : Int} {lb : List SeenT} {c : Int} {D : List ChT} (h : DRes st p k la st' p' k' lb c D) : D.length ≤ 1000 := by
  by_cases hg : Good st p k la ∧ Good st' p' k' lb
  · by_cases he : p = p' ∧ k = k'
    · rw [(h.all hg.1 hg.2 he.1 he.2).2, List.length_append, List.length_reverse]
      have h1 := goneL_len la lb
      have h2 := turnL_len la lb
      have h3 := (sized_of_good hg.1).len
      have h4 := (sized_of_good hg.2).len
      omega
    · rw [(h.apart hg.1 hg.2 he).2]; simp
  · rw [(h.bad hg).2]; simp
/-- Two shots by value, in a frame. -/
structure TwoIn (w W : World) (A B : Array Value) : Prop where
  pa : W.heap[w.heap.size]? = some (.cells A 24 (0, 0))
  pb : W.heap[w.heap.size + 1]? = some (.cells B 24 (0, 0))
  low : Below w.heap.size w W
theorem TwoIn.start (w : World) (A B : Array Value) : TwoIn w ((w.alloc (.cells A 24)).alloc (.cells B 24)) A B := ⟨new_old (heap_alloc_new _ _) _, heap_new' (by simp), ((Below.refl _ _).alloc (Nat.le_refl _) _).alloc (by simp) _⟩
theorem TwoIn.below {w W W' : World} {A B : Array Value} (h : TwoIn w W A B) (hb : Below W.heap.size W W') : TwoIn w W' A B := ⟨kept_block hb h.pa, kept_block hb h.pb, trans2 h.low hb⟩
end Go.Proofs.YtbamkdohaofgdaaGreatDoor
