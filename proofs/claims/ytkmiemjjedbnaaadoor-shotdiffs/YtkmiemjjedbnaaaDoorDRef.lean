/-
  heraldref5: Diff.
-/
import Derived.Test.YtkmiemjjedbnaaaDoorDSized
import Derived.Test.YtkmiemjjedbnaaaDoorCRefCheck
namespace Go.Proofs.YtkmiemjjedbnaaaDoor
open Go.RowKit Classical
set_option linter.unusedVariables false
set_option linter.unusedSimpArgs false

set_option maxHeartbeats 1600000 in
theorem refFindI_any (a : Option Addr) (c n : Nat) (l : List SeenT) (at' : ByteArray) (w : World) (hs : Ss w a l) (hn : l.length = n) (hl : n ≤ 100000) :
    Calls Tryd.prog 24 #[.slice a n c, .string at'] w fun e w' => (e = .returned (.int .i64 (-1)) ∧ hasP l at' = false ∧ findP l at' = none ∧ Below w.heap.size w w') ∨ (∃ (k : Nat) (x : SeenT), e = .returned (.int .i64 k) ∧ l[k]? = some x ∧ hasP l at' = true ∧ findP l at' = some x ∧ Below w.heap.size w w') := by
  subst hn
  have HS : Hid (Ss w a l) := hs
  clear hs
  go_enter Tryd.func24, Tryd.ntmps24
  go_wp2_with fail
  go_loopw [5] (fun i wr => ∃ q : Nat, i = .int .i64 q ∧ q ≤ l.length ∧ Hid (∀ (j : Nat) (x : SeenT), j < q → l[j]? = some x → x.p ≠ at') ∧ Hid (Below w.heap.size w wr)) (fun i _ => l.length - (intOf i).toNat)
  case atStart => exact ⟨0, rfl, Nat.zero_le _, (fun j x h => absurd h (Nat.not_lt_zero _)), Below.refl _ _⟩
  case round =>
    obtain ⟨q, rfl, hq, HQ, HB⟩ := hrel
    by_cases hlt : q < l.length
    · have hlt' : (q : Int) < (l.length : Int) := by omega
      obtain ⟨n, hn⟩ : ∃ n, l[q]? = some n := ⟨l[q], List.getElem?_eq_getElem hlt⟩
      obtain ⟨b, o, rfl, hb, x0, x1, x2⟩ := (HS.out.below HB.out).at hn
      have HX : Hid (l[q]? = some n) := hn
      clear hn
      by_cases he : n.p = at'
      · have HP : Hid (hasP l at' = true) := hasP_iff.2 ⟨n, List.mem_of_getElem? HX.out, he⟩
        have HF : Hid (findP l at' = some n) := findP_at HX.out he (fun i u hi hu => HQ.out i u hi hu)
        rw [he] at x0
        go_wp2_with fail
        go_ret
        exact .inr ⟨q, n, rfl, HX.out, HP.out, HF.out, HB.out⟩
      · have he' := list_ne he
        have HE : Hid (n.p ≠ at') := he
        go_wp2_with fail
        go_roundw
        case rel =>
          refine ⟨q + 1, by go_num, by omega, fun j x hj hx => ?_, HB.out⟩
          by_cases hjq : j = q
          · subst hjq
            rw [HX.out] at hx
            cases hx
            exact HE.out
          · exact HQ.out j x (by omega) hx
        case measure => first | (simp [intOf]; done) | (simp [intOf]; omega)
    · have hge : ¬ (q : Int) < (l.length : Int) := by omega
      have HP : Hid (hasP l at' = false) := by
        show _ = _
        rw [Bool.eq_false_iff]
        intro h
        obtain ⟨s, hs, hse⟩ := hasP_iff.1 h
        obtain ⟨j, hj⟩ := List.getElem?_of_mem hs
        exact HQ.out j s (by have := (List.getElem?_eq_some_iff.1 hj).1; omega) hj hse
      have HF : Hid (findP l at' = none) := findP_none (fun x hx he => by
        have := HP.out
        rw [hasP_iff.2 ⟨x, hx, he⟩] at this
        cases this)
      go_wp2_with fail
      go_ret
      exact .inl ⟨rfl, HP.out, HF.out, HB.out⟩
/-- What stands while the document goes along. -/
structure RD (w0 w : World) (A B : Array Value) (v : Value) (L : List ChT) : Prop where
  row : w.ownsRow w0.heap.size 49 4 v L.length (chCs L)
  two : TwoIn w0 w A B
theorem RD.below {w0 w w' : World} {A B : Array Value} {v : Value} {L : List ChT} (h : RD w0 w A B v L) (hb : Below w.heap.size w w') : RD w0 w' A B v L := ⟨owns_below h.row hb, h.two.below hb⟩
theorem RD.put {w0 w w' : World} {A B : Array Value} {v v' : Value} {L L' : List ChT} {o : Obj} (h : RD w0 w A B v L) (ho : w'.ownsRow w0.heap.size 49 4 v' L'.length (chCs L')) (hg : (w.alloc o).grownBy w' v.ownBlock) : RD w0 w' A B v' L' :=
  ⟨ho, ⟨grown_other4 h.row hg h.two.pa (by decide), grown_other4 h.row hg h.two.pb (by decide), (h.two.low.alloc h.two.low.size _).trans ((Below.refl _ _).grown hg (by simp; have := h.two.low.size; omega) (fun j hj => (h.row.lt j hj).1))⟩⟩
/-- What the document's Diff ends in. -/
def RefEnd (w w' : World) (D : List ChT) (e : Ending) : Prop := ∃ va vc, e = .returned (.tuple #[.slice va D.length vc, .int .i64 0]) ∧ Hs w' va D ∧ Below w.heap.size w w'
def goneFrom (la lb : List SeenT) (q : Nat) : List ChT := ((la.drop q).reverse.map (gone1 lb)).flatten
theorem goneFrom_step {la lb : List SeenT} {q : Nat} {x : SeenT} (h : la[q]? = some x) : goneFrom la lb q = goneFrom la lb (q + 1) ++ gone1 lb x := by
  unfold goneFrom
  obtain ⟨hq, rfl⟩ := List.getElem?_eq_some_iff.1 h
  rw [List.drop_eq_getElem_cons hq, List.reverse_cons, List.map_append, List.flatten_append]
  simp
theorem goneFrom_zero (la lb : List SeenT) : goneFrom la lb 0 = (goneL la lb).reverse := by rw [goneL_rev]; rfl
theorem goneFrom_end (la lb : List SeenT) : goneFrom la lb la.length = [] := by unfold goneFrom; rw [List.drop_length]; rfl
theorem goneFrom_len (la lb : List SeenT) (q : Nat) : (goneFrom la lb q).length ≤ la.length := by
  unfold goneFrom
  rw [← goneL_rev, List.length_reverse]
  exact Nat.le_trans (goneL_len _ _) (by rw [List.length_drop]; omega)
set_option maxHeartbeats 12800000 in
set_option maxRecDepth 100000 in
theorem refDiff_good (st : Int) (p : ByteArray) (k : Int) (a : Option Addr) (c n : Nat) (la : List SeenT) (st' : Int) (b : Option Addr) (d m : Nat) (lb : List SeenT) (w : World) (hsa : Ss w a la) (hsb : Ss w b lb) (hna : la.length = n) (hnb : lb.length = m) (hla : n ≤ 64) (hlb : m ≤ 64)
    (HCA : Hid (∀ w', Below w.heap.size w w' → Calls Tryd.prog 23 #[.agg (shA st p k a n c)] w' fun e w'' => e = .returned (.int .i64 0) ∧ Below w'.heap.size w' w''))
    (HCB : Hid (∀ w', Below w.heap.size w w' → Calls Tryd.prog 23 #[.agg (shA st' p k b m d)] w' fun e w'' => e = .returned (.int .i64 0) ∧ Below w'.heap.size w' w'')) :
    Calls Tryd.prog 13 #[.agg (shA st p k a n c), .agg (shA st' p k b m d)] w fun e w' => RefEnd w w' ((goneL la lb).reverse ++ turnL la lb) e := by
  have H0 : Hid (TwoIn w _ (shA st p k a n c) (shA st' p k b m d)) := TwoIn.start w (shA st p k a n c) (shA st' p k b m d)
  have HSA : Hid (Ss w a la) := hsa
  have HSB : Hid (Ss w b lb) := hsb
  have HNA : Hid (la.length = n) := hna
  have HNB : Hid (lb.length = m) := hnb
  clear hsa hsb hna hnb
  go_enter Tryd.func13, Tryd.ntmps13
  go_wp2_with fail
  refine (HCA.out _ H0.out.low).mono ?_
  rintro e w1 ⟨rfl, hb1⟩
  have H1 : Hid (TwoIn w w1 (shA st p k a n c) (shA st' p k b m d)) := H0.out.below hb1
  obtain ⟨a0, a1, a2, a3⟩ := cells_4 H1.out.pa
  obtain ⟨b0, b1, b2, b3⟩ := cells_4 H1.out.pb
  clear hb1
  go_wp2_with fail
  refine (HCB.out _ H1.out.low).mono ?_
  rintro e w2 ⟨rfl, hb2⟩
  have H2 : Hid (RD w w2 (shA st p k a n c) (shA st' p k b m d) (.slice none 0 0) []) := ⟨World.ownsRow_nil _ _ _ _, H1.out.below hb2⟩
  clear hb2 a0 a1 a2 a3 b0 b1 b2 b3
  obtain ⟨a0, a1, a2, a3⟩ := cells_4 H2.out.two.pa
  obtain ⟨b0, b1, b2, b3⟩ := cells_4 H2.out.two.pb
  go_wp2_with fail
  clear a0 a1 a2 a3 b0 b1 b2 b3
  go_loopw [6, 7] (fun v i wr => ∃ (r : Nat) (L : List ChT), i = .int .i64 ((r : Int) - 1) ∧ r ≤ n ∧ Hid (L = goneFrom la lb r) ∧ Hid (RD w wr (shA st p k a n c) (shA st' p k b m d) v L)) (fun _ i _ => (intOf i + 1).toNat)
  case atStart => exact ⟨n, [], by go_num, Nat.le_refl _, by show _ = _; rw [← HNA.out, goneFrom_end], H2⟩
  case round =>
    obtain ⟨r, L, rfl, hr, HLE, HRD⟩ := hrel
    have HLL : Hid (L.length ≤ 64) := by show _ ≤ _; rw [HLE.out]; refine Nat.le_trans (goneFrom_len _ _ _) ?_; rw [HNA.out]; exact hla
    obtain ⟨a0, a1, a2, a3⟩ := cells_4 HRD.out.two.pa
    obtain ⟨b0, b1, b2, b3⟩ := cells_4 HRD.out.two.pb
    cases r with
    | zero =>
      have hm1 : ¬ (0 : Int) ≤ (((0 : Nat) : Int) - 1) := by omega
      have hm2 : ((((0 : Nat) : Int) - 1) : Int) = -1 := by omega
      rw [hm2] at hm1 ⊢
      clear hm2
      go_wp2_with fail
      clear a0 a1 a2 a3 b0 b1 b2 b3
      obtain ⟨E, hE⟩ : ∃ E, (goneL la lb).reverse = E := ⟨_, rfl⟩
      have HE : Hid ((goneL la lb).reverse = E) := hE
      have HEL : Hid (L = E) := by show _ = _; rw [HLE.out, goneFrom_zero, hE]
      have HEN : Hid (E.length ≤ 64) := by show _ ≤ _; rw [← HEL.out]; exact HLL.out
      clear hE
      go_loopw [6, 8] (fun v i wr => ∃ (q : Nat) (T : List ChT), i = .int .i64 q ∧ q ≤ m ∧ Hid (T = turnL la (lb.take q)) ∧ Hid (RD w wr (shA st p k a n c) (shA st' p k b m d) v (E ++ T))) (fun _ i _ => m - (intOf i).toNat)
      case atStart => exact ⟨0, [], rfl, Nat.zero_le _, rfl, by rw [List.append_nil, ← HEL.out]; exact HRD⟩
      case round =>
        clear HRD HLE HLL HEL
        obtain ⟨q, T, rfl, hq, HTE, HRD⟩ := hrel
        have HTL : Hid (T.length ≤ 64) := by show _ ≤ _; rw [HTE.out]; refine Nat.le_trans (turnL_len _ _) ?_; rw [List.length_take, HNB.out]; omega
        obtain ⟨a0, a1, a2, a3⟩ := cells_4 HRD.out.two.pa
        obtain ⟨b0, b1, b2, b3⟩ := cells_4 HRD.out.two.pb
        by_cases hlt : q < m
        · have hlt' : (q : Int) < (m : Int) := by omega
          obtain ⟨y, hy⟩ : ∃ y, lb[q]? = some y := ⟨lb[q]'(by rw [HNB.out]; exact hlt), List.getElem?_eq_getElem _⟩
          obtain ⟨bb, ob, rfl, hbb, y0, y1, y2⟩ := (HSB.out.below HRD.out.two.low).at hy
          have HY : Hid (lb[q]? = some y) := hy
          clear hy
          have HR1 : Hid (RD w (wr.alloc (.cells (seC y) 38)) (shA st p k a n c) (shA st' p k (some ⟨bb, ob, none⟩) m d) u6 (E ++ T)) := HRD.out.below ((Below.refl _ _).alloc (Nat.le_refl _) _)
          have HBY1 : Hid ((wr.alloc (.cells (seC y) 38)).heap[wr.heap.size]? = some (.cells (seC y) 38 (0, 0))) := heap_alloc_new _ _
          have hwl : w.heap.size < wr.heap.size := lt_of_blk HRD.out.two.pa
          have hwl2 : w.heap.size + 1 < wr.heap.size := lt_of_blk HRD.out.two.pb
          have HFI : Hid _ := refFindI_any a c n la y.p (wr.alloc (.cells (seC y) 38)) (HSA.out.below HR1.out.two.low) HNA.out (by omega)
          go_wp2_with fail
          clear y0 y1 y2 a0 a1 a2 a3 b0 b1 b2 b3
          refine Calls.mono HFI.out ?_
          rintro e w3 (⟨rfl, hh3, hf3, hb3⟩ | ⟨i3, x, rfl, hx3, hh3, hf3, hb3⟩)
          · have HR3 : Hid (RD w w3 (shA st p k a n c) (shA st' p k (some ⟨bb, ob, none⟩) m d) u6 (E ++ T)) := HR1.out.below hb3
            have HBY3 : Hid (w3.heap[wr.heap.size]? = some (.cells (seC y) 38 (0, 0))) := kept_block hb3 HBY1.out
            have HT1 : Hid (turn1 la y = [⟨1, y.p, y.d, y.v⟩]) := by show _ = _; unfold turn1; rw [hf3]; rfl
            obtain ⟨y0, y1, y2⟩ := cells_3 HBY3.out
            clear hh3 hf3 hb3
            go_wp2_with (first
              | (at_builtin; refine wpList_appC rfl _ _ rfl w.heap.size u6 (E ++ T).length (chCs (E ++ T)) rfl (World.ownsRow.alloc HR3.out.row _) (some ⟨w3.heap.size, 0, none⟩) 1 1 [⟨1, y.p, y.d, y.v⟩] rfl rfl (hs_one (heap_alloc_new _ _)) (fun h => by cases h) (by have := HEN.out; have := HTL.out; simp; omega) (by have := HR3.out.two.low.size; simp; omega) ?_
                 intro v4 w4 ho hg hat
                 have HR4 : Hid (RD w w4 (shA st p k a n c) (shA st' p k (some ⟨bb, ob, none⟩) m d) v4 ((E ++ T) ++ [⟨1, y.p, y.d, y.v⟩])) := by
                   refine RD.put HR3.out ?_ hg
                   rw [List.length_append, chCs_append]
                   exact ho
                 clear ho hg hat)
              | fail)
            go_roundw
            case rel =>
              refine ⟨q + 1, T ++ [⟨1, y.p, y.d, y.v⟩], by go_num, by omega, ?_, by rw [← List.append_assoc]; exact HR4⟩
              show _ = _
              rw [turnL_snoc HY.out, HT1.out, HTE.out]
            case measure => first | (simp [intOf]; done) | (simp [intOf]; omega)
          · have HR3 : Hid (RD w w3 (shA st p k a n c) (shA st' p k (some ⟨bb, ob, none⟩) m d) u6 (E ++ T)) := HR1.out.below hb3
            have HBY3 : Hid (w3.heap[wr.heap.size]? = some (.cells (seC y) 38 (0, 0))) := kept_block hb3 HBY1.out
            obtain ⟨y0, y1, y2⟩ := cells_3 HBY3.out
            obtain ⟨a0, a1, a2, a3⟩ := cells_4 HR3.out.two.pa
            obtain ⟨ba, oa, rfl, hba, x0, x1, x2⟩ := (HSA.out.below HR3.out.two.low).at hx3
            have hi3 : i3 < n := by rw [← HNA.out]; exact (List.getElem?_eq_some_iff.1 hx3).1
            have hi3' : (i3 : Int) < (n : Int) := by omega
            have HF3 : Hid (findP la y.p = some x) := hf3
            have hpe : x.p = y.p := by
              have := List.find?_some hf3
              simpa using this
            clear hh3 hf3 hb3 hx3
            by_cases hxy : x = y
            · have HT1 : Hid (turn1 la y = []) := by show _ = _; unfold turn1; rw [HF3.out]; simp only; rw [if_neg (by rw [neB_not.2 hxy]; simp)]
              rw [hxy] at x0 x1 x2
              clear hxy hpe
              go_wp2_with fail
              go_region_held3 (fun w' => w'.cell? ⟨w.heap.size, 3, none⟩ = some (.slice (some ⟨ba, oa, none⟩) n c) ∧ w'.cell? ⟨ba, oa + i3 * 3, none⟩ = some (.string y.p) ∧ w'.cell? ⟨ba, oa + i3 * 3 + 1, none⟩ = some (.string y.d) ∧ w'.cell? ⟨ba, oa + i3 * 3 + 2, none⟩ = some (.int .i64 y.v) ∧ w'.cell? ⟨wr.heap.size, 0, none⟩ = some (.string y.p) ∧ w'.cell? ⟨wr.heap.size, 1, none⟩ = some (.string y.d) ∧ w'.cell? ⟨wr.heap.size, 2, none⟩ = some (.int .i64 y.v)) (first | exact ⟨a3, x0, x1, x2, y0, y1, y2⟩ | go_keep) (fail)
              go_wp2_with fail
              clear x0 x1 x2 y0 y1 y2 a0 a1 a2 a3
              go_roundw
              case rel =>
                refine ⟨q + 1, T, by go_num, by omega, ?_, HR3.out.below (below_drew (Below.refl _ _))⟩
                show _ = _
                rw [turnL_snoc HY.out, HT1.out, List.append_nil, HTE.out]
              case measure => first | (simp [intOf]; done) | (simp [intOf]; omega)
            · have HT1 : Hid (turn1 la y = [⟨2, y.p, y.d, y.v⟩]) := by show _ = _; unfold turn1; rw [HF3.out]; simp only; rw [if_pos (neB_iff.2 hxy)]; rfl
              rw [hpe] at x0
              rcases seen_ne hxy with h1 | ⟨h0, h1⟩ | ⟨h0, h0', h1⟩
              · exact absurd hpe (fun e => by rw [e] at h1; simp at h1)
              · clear hpe hxy h0
                go_wp2_with fail
                go_region_held3 (fun w' => w'.cell? ⟨w.heap.size, 3, none⟩ = some (.slice (some ⟨ba, oa, none⟩) n c) ∧ w'.cell? ⟨ba, oa + i3 * 3, none⟩ = some (.string y.p) ∧ w'.cell? ⟨ba, oa + i3 * 3 + 1, none⟩ = some (.string x.d) ∧ w'.cell? ⟨ba, oa + i3 * 3 + 2, none⟩ = some (.int .i64 x.v) ∧ w'.cell? ⟨wr.heap.size, 0, none⟩ = some (.string y.p) ∧ w'.cell? ⟨wr.heap.size, 1, none⟩ = some (.string y.d) ∧ w'.cell? ⟨wr.heap.size, 2, none⟩ = some (.int .i64 y.v)) (first | exact ⟨a3, x0, x1, x2, y0, y1, y2⟩ | go_keep) (fail)
                have HR5 : Hid (RD w w3.drew (shA st p k (some ⟨ba, oa, none⟩) n c) (shA st' p k (some ⟨bb, ob, none⟩) m d) u6 (E ++ T)) := HR3.out.below (below_drew (Below.refl _ _))
                have z0 : w3.drew.cell? ⟨wr.heap.size, 0, none⟩ = some (.string y.p) := y0
                have z1 : w3.drew.cell? ⟨wr.heap.size, 1, none⟩ = some (.string y.d) := y1
                have z2 : w3.drew.cell? ⟨wr.heap.size, 2, none⟩ = some (.int .i64 y.v) := y2
                clear x0 x1 x2 y0 y1 y2 a0 a1 a2 a3
                generalize w3.drew = w5 at z0 z1 z2 HR5 ⊢
                go_wp2_with (first
                  | (at_builtin; refine wpList_appC rfl _ _ rfl w.heap.size u6 (E ++ T).length (chCs (E ++ T)) rfl (World.ownsRow.alloc HR5.out.row _) (some ⟨w5.heap.size, 0, none⟩) 1 1 [⟨2, y.p, y.d, y.v⟩] rfl rfl (hs_one (heap_alloc_new _ _)) (fun h => by cases h) (by have := HEN.out; have := HTL.out; simp; omega) (by have := HR5.out.two.low.size; simp; omega) ?_
                     intro v4 w4 ho hg hat
                     have HR4 : Hid (RD w w4 (shA st p k (some ⟨ba, oa, none⟩) n c) (shA st' p k (some ⟨bb, ob, none⟩) m d) v4 ((E ++ T) ++ [⟨2, y.p, y.d, y.v⟩])) := by
                       refine RD.put HR5.out ?_ hg
                       rw [List.length_append, chCs_append]
                       exact ho
                     clear ho hg hat)
                  | fail)
                clear z0 z1 z2
                go_roundw
                case rel =>
                  refine ⟨q + 1, T ++ [⟨2, y.p, y.d, y.v⟩], by go_num, by omega, ?_, by rw [← List.append_assoc]; exact HR4⟩
                  show _ = _
                  rw [turnL_snoc HY.out, HT1.out, HTE.out]
                case measure => first | (simp [intOf]; done) | (simp [intOf]; omega)
              · clear hpe hxy h0
                rw [h0'] at x1
                clear h0'
                go_wp2_with fail
                go_region_held3 (fun w' => w'.cell? ⟨w.heap.size, 3, none⟩ = some (.slice (some ⟨ba, oa, none⟩) n c) ∧ w'.cell? ⟨ba, oa + i3 * 3, none⟩ = some (.string y.p) ∧ w'.cell? ⟨ba, oa + i3 * 3 + 1, none⟩ = some (.string y.d) ∧ w'.cell? ⟨ba, oa + i3 * 3 + 2, none⟩ = some (.int .i64 x.v) ∧ w'.cell? ⟨wr.heap.size, 0, none⟩ = some (.string y.p) ∧ w'.cell? ⟨wr.heap.size, 1, none⟩ = some (.string y.d) ∧ w'.cell? ⟨wr.heap.size, 2, none⟩ = some (.int .i64 y.v)) (first | exact ⟨a3, x0, x1, x2, y0, y1, y2⟩ | go_keep) (fail)
                have HR5 : Hid (RD w w3.drew (shA st p k (some ⟨ba, oa, none⟩) n c) (shA st' p k (some ⟨bb, ob, none⟩) m d) u6 (E ++ T)) := HR3.out.below (below_drew (Below.refl _ _))
                have z0 : w3.drew.cell? ⟨wr.heap.size, 0, none⟩ = some (.string y.p) := y0
                have z1 : w3.drew.cell? ⟨wr.heap.size, 1, none⟩ = some (.string y.d) := y1
                have z2 : w3.drew.cell? ⟨wr.heap.size, 2, none⟩ = some (.int .i64 y.v) := y2
                clear x0 x1 x2 y0 y1 y2 a0 a1 a2 a3
                generalize w3.drew = w5 at z0 z1 z2 HR5 ⊢
                go_wp2_with (first
                  | (at_builtin; refine wpList_appC rfl _ _ rfl w.heap.size u6 (E ++ T).length (chCs (E ++ T)) rfl (World.ownsRow.alloc HR5.out.row _) (some ⟨w5.heap.size, 0, none⟩) 1 1 [⟨2, y.p, y.d, y.v⟩] rfl rfl (hs_one (heap_alloc_new _ _)) (fun h => by cases h) (by have := HEN.out; have := HTL.out; simp; omega) (by have := HR5.out.two.low.size; simp; omega) ?_
                     intro v4 w4 ho hg hat
                     have HR4 : Hid (RD w w4 (shA st p k (some ⟨ba, oa, none⟩) n c) (shA st' p k (some ⟨bb, ob, none⟩) m d) v4 ((E ++ T) ++ [⟨2, y.p, y.d, y.v⟩])) := by
                       refine RD.put HR5.out ?_ hg
                       rw [List.length_append, chCs_append]
                       exact ho
                     clear ho hg hat)
                  | fail)
                clear z0 z1 z2
                go_roundw
                case rel =>
                  refine ⟨q + 1, T ++ [⟨2, y.p, y.d, y.v⟩], by go_num, by omega, ?_, by rw [← List.append_assoc]; exact HR4⟩
                  show _ = _
                  rw [turnL_snoc HY.out, HT1.out, HTE.out]
                case measure => first | (simp [intOf]; done) | (simp [intOf]; omega)
        · obtain rfl : q = m := by omega
          have hge : ¬ (q : Int) < (q : Int) := by omega
          have HTT : Hid (T = turnL la lb) := by show _ = _; rw [HTE.out, ← HNB.out, List.take_length]
          obtain ⟨va, vc, rfl, _⟩ := owns_form HRD.out.row
          have HHS : Hid (Hs wr va (E ++ T)) := hs_of_row HRD.out.row
          go_wp2_with fail
          go_ret2
          refine ⟨va, vc, ?_, ?_, HRD.out.two.low⟩
          · rw [HE.out, ← HTT.out, List.length_append]; rfl
          · rw [HE.out, ← HTT.out]; exact HHS.out
    | succ q =>
      have hqe : (((q + 1 : Nat) : Int) - 1) = (q : Int) := by omega
      rw [hqe]
      have hq0 : (0 : Int) ≤ (q : Int) := by omega
      have hqn : (q : Int) < (n : Int) := by omega
      obtain ⟨x, hx⟩ : ∃ x, la[q]? = some x := ⟨la[q]'(by rw [HNA.out]; omega), List.getElem?_eq_getElem _⟩
      obtain ⟨ba, oa, rfl, hba, x0, x1, x2⟩ := (HSA.out.below HRD.out.two.low).at hx
      have HX : Hid (la[q]? = some x) := hx
      have HFI : Hid (∀ w', Below w.heap.size w w' → _) := fun w' (hb : Below w.heap.size w w') => refFindI_any b d m lb x.p w' (HSB.out.below hb) HNB.out (by omega)
      clear hx hqe
      cases hhp : hasP lb x.p with
      | true =>
        have HFT : Hid (∀ w', Below w.heap.size w w' → Calls Tryd.prog 24 #[.slice b m d, .string x.p] w' fun e w'' => ∃ i : Nat, e = .returned (.int .i64 i) ∧ Below w'.heap.size w' w'') := fun w' hb => (HFI.out w' hb).mono (fun e w'' h => by
          rcases h with ⟨_, h, _⟩ | ⟨i, y, rfl, _, _, _, hb'⟩
          · rw [hhp] at h; cases h
          · exact ⟨i, rfl, hb'⟩)
        have HG1 : Hid (gone1 lb x = []) := by show _ = _; unfold gone1; rw [if_pos hhp]
        clear HFI hhp
        go_wp2_with fail
        go_region_held3 (fun w' => w'.cell? ⟨w.heap.size, 3, none⟩ = some (.slice (some ⟨ba, oa, none⟩) n c) ∧ w'.cell? ⟨w.heap.size + 1, 3, none⟩ = some (.slice b m d) ∧ w'.cell? ⟨ba, oa + q * 3, none⟩ = some (.string x.p)) (first | exact ⟨a3, b3, x0⟩ | go_keep)
          (first
          | (go_at_call 24; refine (HFT.out _ (below_drew HRD.out.two.low)).mono ?_; rintro e w3 ⟨i3, rfl, hb3⟩
             have HR3 : Hid (RD w w3 (shA st p k (some ⟨ba, oa, none⟩) n c) (shA st' p k b m d) u6 L) := HRD.out.below (of_drew hb3)
             have hi0 : ¬ (i3 : Int) < 0 := by omega
             clear hb3 a0 a1 a2 a3 b0 b1 b2 b3 x0 x1 x2
             obtain ⟨a0, a1, a2, a3⟩ := cells_4 HR3.out.two.pa
             obtain ⟨b0, b1, b2, b3⟩ := cells_4 HR3.out.two.pb
             obtain ⟨ba', oa', hbo, hba', x0, x1, x2⟩ := (HSA.out.below HR3.out.two.low).at HX.out
             cases hbo)
          | fail)
        go_wp2_with fail
        clear a0 a1 a2 a3 b0 b1 b2 b3 x0 x1 x2
        go_roundw
        case rel =>
          refine ⟨q, L, by go_num, by omega, ?_, HR3⟩
          show _ = _
          rw [goneFrom_step HX.out, HG1.out, List.append_nil, HLE.out]
        case measure => first | (simp [intOf]; done) | (simp [intOf]; omega)
      | false =>
        have HFT : Hid (∀ w', Below w.heap.size w w' → Calls Tryd.prog 24 #[.slice b m d, .string x.p] w' fun e w'' => e = .returned (.int .i64 (-1)) ∧ Below w'.heap.size w' w'') := fun w' hb => (HFI.out w' hb).mono (fun e w'' h => by
          rcases h with ⟨rfl, _, _, hb'⟩ | ⟨i, y, rfl, _, h, _, hb'⟩
          · exact ⟨rfl, hb'⟩
          · rw [hhp] at h; cases h)
        have HG1 : Hid (gone1 lb x = [⟨3, x.p, ⟨#[]⟩, 0⟩]) := by show _ = _; unfold gone1; rw [if_neg (by rw [hhp]; simp)]; rfl
        clear HFI hhp
        go_wp2_with fail
        go_region_held3 (fun w' => w'.cell? ⟨w.heap.size, 3, none⟩ = some (.slice (some ⟨ba, oa, none⟩) n c) ∧ w'.cell? ⟨w.heap.size + 1, 3, none⟩ = some (.slice b m d) ∧ w'.cell? ⟨ba, oa + q * 3, none⟩ = some (.string x.p)) (first | exact ⟨a3, b3, x0⟩ | go_keep)
          (first
          | (go_at_call 24; refine (HFT.out _ (below_drew HRD.out.two.low)).mono ?_; rintro e w3 ⟨rfl, hb3⟩
             have HR3 : Hid (RD w w3 (shA st p k (some ⟨ba, oa, none⟩) n c) (shA st' p k b m d) u6 L) := HRD.out.below (of_drew hb3)
             clear hb3 a0 a1 a2 a3 b0 b1 b2 b3 x0 x1 x2
             obtain ⟨a0, a1, a2, a3⟩ := cells_4 HR3.out.two.pa
             obtain ⟨b0, b1, b2, b3⟩ := cells_4 HR3.out.two.pb
             obtain ⟨ba', oa', hbo, hba', x0, x1, x2⟩ := (HSA.out.below HR3.out.two.low).at HX.out
             cases hbo)
          | fail)
        go_wp2_with (first
          | (at_builtin; refine wpList_appC rfl _ _ rfl w.heap.size u6 L.length (chCs L) rfl (World.ownsRow.alloc HR3.out.row _) (some ⟨w3.heap.size, 0, none⟩) 1 1 [⟨3, x.p, ⟨#[]⟩, 0⟩] rfl rfl (hs_one (heap_alloc_new _ _)) (fun h => by cases h) (by have := HLL.out; simp; omega) (by have := HR3.out.two.low.size; simp; omega) ?_
             intro v4 w4 ho hg hat
             have HR4 : Hid (RD w w4 (shA st p k (some ⟨ba, oa, none⟩) n c) (shA st' p k b m d) v4 (L ++ [⟨3, x.p, ⟨#[]⟩, 0⟩])) := by
               refine RD.put HR3.out ?_ hg
               rw [List.length_append, chCs_append]
               exact ho
             clear ho hg hat)
          | fail)
        clear a0 a1 a2 a3 b0 b1 b2 b3 x0 x1 x2
        go_roundw
        case rel =>
          refine ⟨q, L ++ [⟨3, x.p, ⟨#[]⟩, 0⟩], by go_num, by omega, ?_, HR4⟩
          show _ = _
          rw [goneFrom_step HX.out, HG1.out, HLE.out]
        case measure => first | (simp [intOf]; done) | (simp [intOf]; omega)
end Go.Proofs.YtkmiemjjedbnaaaDoor
