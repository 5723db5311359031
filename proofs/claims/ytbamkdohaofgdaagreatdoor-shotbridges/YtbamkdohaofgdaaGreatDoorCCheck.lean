/-
  shot: Check.
-/
import Derived.Test.YtbamkdohaofgdaaGreatDoorCMay
namespace Go.Proofs.YtbamkdohaofgdaaGreatDoor
open Go.RowKit Classical
set_option linter.unusedVariables false
set_option linter.unusedSimpArgs false

abbrev pRoot : ByteArray := ⟨#[47]⟩
/-- A shot that may be. -/
def Good (st : Int) (p : ByteArray) (k : Int) (l : List SeenT) : Prop := isNum st = true ∧ covers k p 1 p = true ∧ l.length ≤ 64 ∧ ¬ (p = pRoot ∧ l = []) ∧ ∀ (i : Nat) (n : SeenT), l[i]? = some n → mayB k p (l.take i) n = true
def chk (st : Int) (p : ByteArray) (k : Int) (l : List SeenT) [Decidable (Good st p k l)] : Int := if Good st p k l then 0 else 51
theorem chk_bad {st : Int} {p : ByteArray} {k : Int} {l : List SeenT} (h : ¬ Good st p k l) : chk st p k l = 51 := if_neg h
theorem chk_good {st : Int} {p : ByteArray} {k : Int} {l : List SeenT} (h : Good st p k l) : chk st p k l = 0 := if_pos h
theorem may_step {k : Int} {p : ByteArray} {ahead : List SeenT} {n t : SeenT} (h : mayB k p ahead n = true) (ht : ahead.getLast? = some t) : O t.p n.p = -1 := by
  unfold mayB behindB at h
  rw [ht] at h
  simp only [Bool.and_eq_true, decide_eq_true_eq] at h
  have := O_range t.p n.p
  omega
/-- What was let in so far stands in order. -/
theorem asc_of_may {k : Int} {p : ByteArray} {l : List SeenT} : ∀ m, m ≤ l.length → (∀ (i : Nat) (n : SeenT), i < m → l[i]? = some n → mayB k p (l.take i) n = true) → Asc (l.take m)
  | 0, _, _ => fun i j x y hij hx hy => by simp at hx
  | m + 1, hm, h => by
    have ih := asc_of_may m (by omega) (fun i n hi hn => h i n (by omega) hn)
    intro i j x y hij hx hy
    rw [List.getElem?_take] at hx hy
    split at hx
    · split at hy
      · rename_i hi hj
        by_cases hjm : j < m
        · exact ih i j x y hij (by rw [List.getElem?_take, if_pos (by omega)]; exact hx) (by rw [List.getElem?_take, if_pos hjm]; exact hy)
        · have hj' : j = m := by omega
          subst hj'
          have hmay := h j y (by omega) hy
          obtain ⟨t, ht⟩ : ∃ t, l[j - 1]? = some t := ⟨l[j - 1]'(by omega), List.getElem?_eq_getElem _⟩
          have hlast : (l.take j).getLast? = some t := by
            rw [List.getLast?_eq_getElem?, List.length_take, List.getElem?_take, if_pos (by omega), show min j l.length - 1 = j - 1 by omega]
            exact ht
          have h1 := may_step hmay hlast
          by_cases hij1 : i = j - 1
          · subst hij1
            rw [hx] at ht
            cases ht
            exact h1
          · exact O_trans (ih i (j - 1) x t (by omega) (by rw [List.getElem?_take, if_pos (by omega)]; exact hx) (by rw [List.getElem?_take, if_pos (by omega)]; exact ht)) h1
      · cases hy
    · cases hx
theorem Ss.take {w : World} {a : Option Addr} {l : List SeenT} (h : Ss w a l) (m : Nat) : Ss w a (l.take m) := by
  rcases h with rfl | ⟨b, o, ha, hlt, hs⟩
  · exact .inl (by simp)
  · refine .inr ⟨b, o, ha, hlt, fun i s hi j x hx => hs i s ?_ j x hx⟩
    rw [List.getElem?_take] at hi
    split at hi
    · exact hi
    · cases hi
set_option maxHeartbeats 3200000 in
set_option maxRecDepth 100000 in
theorem check_any (st : Int) (p : ByteArray) (k : Int) (a : Option Addr) (c : Nat) (l : List SeenT) (w : World) (hg : Ground w) (hs : Ss w a l) (hok : ∀ s ∈ l, s.p.size ≤ maxLen) (hl : l.length ≤ maxLen) (hc : l.length ≤ c) :
    Calls Tryz.prog 14 #[.agg (shA st p k a l.length c)] w fun e w' => e = .returned (.int .i64 (chk st p k l)) ∧ Below w.heap.size w w' := by
  unfold maxLen at hl
  have HG : Hid (Ground w) := hg
  have HS : Hid (Ss w a l) := hs
  have HOK : Hid (∀ s ∈ l, s.p.size ≤ maxLen) := hok
  have HB0 : Hid (Below w.heap.size w (w.alloc (.cells (shA st p k a l.length c) 24))) := (Below.refl _ _).alloc (Nat.le_refl _) _
  have HA0 : Hid ((w.alloc (.cells (shA st p k a l.length c) 24)).heap[w.heap.size]? = some (.cells (shA st p k a l.length c) 24 (0, 0))) := heap_alloc_new _ _
  clear hg hs hok
  cases hst : isNum st with
  | false =>
    have HM : Hid (chk st p k l = 51) := chk_bad (fun h => by have := h.1; rw [hst] at this; cases this)
    have HN : Hid (∀ w, Calls Tryz.prog 24 #[.int .i64 st] w fun e w' => e = .returned (.bool false) ∧ w' = w) := fun w => by have := isNumber_any st w; rw [hst] at this; exact this
    go_enter Tryz.func14, Tryz.ntmps14
    go_wp2_with fail
    refine (HN.out _).mono ?_
    rintro e w1 ⟨rfl, rfl⟩
    go_wp2_with fail
    go_ret
    exact ⟨by rw [HM.out]; rfl, HB0.out⟩
  | true =>
    have HN : Hid (∀ w, Calls Tryz.prog 24 #[.int .i64 st] w fun e w' => e = .returned (.bool true) ∧ w' = w) := fun w => by have := isNumber_any st w; rw [hst] at this; exact this
    have HST : Hid (isNum st = true) := hst
    have HF : Hid _ := isFor_any st p k a l.length c p _ (HG.out.below HB0.out)
    clear hst
    cases hcv : covers k p 1 p with
    | false =>
      have HM : Hid (chk st p k l = 51) := chk_bad (fun h => by have := h.2.1; rw [hcv] at this; cases this)
      rw [hcv] at HF
      go_enter Tryz.func14, Tryz.ntmps14
      go_wp2_with fail
      refine (HN.out _).mono ?_
      rintro e w1 ⟨rfl, rfl⟩
      go_wp2_with fail
      refine Calls.mono HF.out ?_
      rintro e w2 ⟨rfl, hb2⟩
      have HB2 : Hid (Below w.heap.size w w2) := trans2 HB0.out hb2
      clear hb2
      go_wp2_with fail
      go_ret
      exact ⟨by rw [HM.out]; rfl, HB2.out⟩
    | true =>
      rw [hcv] at HF
      have HCV : Hid (covers k p 1 p = true) := hcv
      clear hcv
      by_cases h64 : l.length ≤ 64
      · have h64' : (l.length : Int) ≤ 64 := by omega
        by_cases hrt : p = pRoot
        · subst hrt
          by_cases hl0 : l = []
          · have HM : Hid (chk st pRoot k l = 51) := chk_bad (fun h => h.2.2.2.1 ⟨rfl, hl0⟩)
            have hl0' : (l.length : Int) = 0 := by rw [hl0]; rfl
            clear hl0
            go_enter Tryz.func14, Tryz.ntmps14
            go_wp2_with fail
            refine (HN.out _).mono ?_
            rintro e w1 ⟨rfl, rfl⟩
            go_wp2_with fail
            refine Calls.mono HF.out ?_
            rintro e w2 ⟨rfl, hb2⟩
            have HB2 : Hid (Below w.heap.size w w2) := trans2 HB0.out hb2
            have HA2 : Hid (w2.heap[w.heap.size]? = some (.cells (shA st pRoot k a l.length c) 24 (0, 0))) := kept_block hb2 HA0.out
            obtain ⟨a0, a1, a2, a3⟩ := cells_4 HA2.out
            clear hb2
            go_wp2_with fail
            go_ret
            exact ⟨by rw [HM.out]; rfl, HB2.out⟩
          · have hl0' : ((l.length : Int) == 0) = false := by
              rw [beq_eq_false_iff_ne]
              exact fun e => hl0 (List.eq_nil_of_length_eq_zero (by omega))
            have HNR : Hid (¬ l = []) := hl0
            clear hl0
            go_enter Tryz.func14, Tryz.ntmps14
            go_wp2_with fail
            refine (HN.out _).mono ?_
            rintro e w1 ⟨rfl, rfl⟩
            go_wp2_with fail
            refine Calls.mono HF.out ?_
            rintro e w2 ⟨rfl, hb2⟩
            have HB2 : Hid (Below w.heap.size w w2) := trans2 HB0.out hb2
            have HA2 : Hid (w2.heap[w.heap.size]? = some (.cells (shA st pRoot k a l.length c) 24 (0, 0))) := kept_block hb2 HA0.out
            obtain ⟨a0, a1, a2, a3⟩ := cells_4 HA2.out
            clear hb2
            go_wp2_with fail
            clear a0 a1 a2 a3
            go_loopw [34] (fun i wr => ∃ q : Nat, i = .int .i64 q ∧ q ≤ l.length ∧ Hid (∀ (i : Nat) (n : SeenT), i < q → l[i]? = some n → mayB k pRoot (l.take i) n = true) ∧ Hid (wr.heap[w.heap.size]? = some (.cells (shA st pRoot k a l.length c) 24 (0, 0))) ∧ Hid (Below w.heap.size w wr)) (fun i _ => l.length - (intOf i).toNat)
            case atStart => exact ⟨0, rfl, Nat.zero_le _, (fun i n h => absurd h (Nat.not_lt_zero _)), HA2.out, HB2.out⟩
            case round =>
              obtain ⟨q, rfl, hq, HQ, HA, HB⟩ := hrel
              by_cases hlt : q < l.length
              · have hlt' : (q : Int) < (l.length : Int) := by omega
                obtain ⟨n, hn⟩ : ∃ n, l[q]? = some n := ⟨l[q], List.getElem?_eq_getElem hlt⟩
                obtain ⟨b, o, rfl, hb, x0, x1, x2⟩ := (HS.out.below HB.out).at hn
                have HX : Hid (l[q]? = some n) := hn
                have hqc : (q : Int) ≤ (c : Int) := by omega
                have hwl : w.heap.size < wr.heap.size := lt_of_blk HA.out
                have HA1 : Hid ((wr.alloc (.cells (seC n) 52)).heap[w.heap.size]? = some (.cells (shA st pRoot k (some ⟨b, o, none⟩) l.length c) 24 (0, 0))) := new_old HA.out _
                have HB1 : Hid (Below w.heap.size w (wr.alloc (.cells (seC n) 52))) := HB.out.alloc HB.out.size _
                have HN1 : Hid ((wr.alloc (.cells (seC n) 52)).heap[wr.heap.size]? = some (.cells (seC n) 52 (0, 0))) := heap_alloc_new _ _
                have HMH : Hid (∀ w', Below w.heap.size w w' → Calls Tryz.prog 31 #[.agg (shA st pRoot k (some ⟨b, o, none⟩) l.length c), .slice (some ⟨b, o, none⟩) q c, .agg (seC n)] w' fun e w'' => e = .returned (.bool (mayB k pRoot (l.take q) n)) ∧ Below w'.heap.size w' w'') := fun w' hb' => by
                  have hle : (l.take q).length = q := by rw [List.length_take]; omega
                  have := mayHave_any st pRoot k (some ⟨b, o, none⟩) l.length c (some ⟨b, o, none⟩) c (l.take q) n w' (HG.out.below hb') ((HS.out.below hb').take q) (by omega) (fun s hs => HOK.out s (List.mem_of_mem_take hs)) (HOK.out n (List.mem_of_getElem? HX.out)) (asc_of_may q (by omega) HQ.out)
                  rw [hle] at this
                  exact this
                clear hn
                go_wp2_with fail
                clear x0 x1 x2
                obtain ⟨a0, a1, a2, a3⟩ := cells_4 HA1.out
                obtain ⟨n0, n1, n2⟩ := cells_3 HN1.out
                obtain ⟨r, hr⟩ : ∃ r, mayB k pRoot (l.take q) n = r := ⟨_, rfl⟩
                have HR : Hid (mayB k pRoot (l.take q) n = r) := hr
                clear hr
                go_region_held3 (fun w' => w'.cell? ⟨w.heap.size, 0, none⟩ = some (.int .i64 st) ∧ w'.cell? ⟨w.heap.size, 1, none⟩ = some (.string pRoot) ∧ w'.cell? ⟨w.heap.size, 2, none⟩ = some (.int .i64 k) ∧ w'.cell? ⟨w.heap.size, 3, none⟩ = some (.slice (some ⟨b, o, none⟩) l.length c) ∧ w'.cell? ⟨wr.heap.size, 0, none⟩ = some (.string n.p) ∧ w'.cell? ⟨wr.heap.size, 1, none⟩ = some (.string n.d) ∧ w'.cell? ⟨wr.heap.size, 2, none⟩ = some (.int .i64 n.v)) (first | go_keep | exact ⟨a0, a1, a2, a3, n0, n1, n2⟩)
                  (first
                  | (go_at_call 31; refine (HMH.out _ (below_drew HB1.out)).mono ?_; rintro e w4 ⟨he, hb4⟩
                     have he' : e = .returned (.bool r) := he.trans (by rw [HR.out])
                     subst he'
                     have HB4 : Hid (Below w.heap.size w w4) := trans2 HB1.out (of_drew hb4)
                     have HA4 : Hid _ := kept_block (W := World.drew _) hb4 HA1.out
                     have HN4 : Hid _ := kept_block (W := World.drew _) hb4 HN1.out
                     clear he hb4 a0 a1 a2 a3 n0 n1 n2
                     obtain ⟨a0, a1, a2, a3⟩ := cells_4 HA4.out
                     obtain ⟨n0, n1, n2⟩ := cells_3 HN4.out)
                  | fail)
                cases hrv : r with
                | true =>
                  subst hrv
                  go_wp2_with fail
                  go_roundw
                  case rel =>
                    refine ⟨q + 1, by go_num, by omega, fun i m hi hm => ?_, HA4.out, HB4.out⟩
                    by_cases hiq : i = q
                    · subst hiq
                      rw [HX.out] at hm
                      cases hm
                      exact HR.out
                    · exact HQ.out i m (by omega) hm
                  case measure => simp [intOf]; omega
                | false =>
                  subst hrv
                  have HM : Hid (chk st pRoot k l = 51) := chk_bad (fun h => by have := h.2.2.2.2 q n HX.out; rw [HR.out] at this; cases this)
                  go_wp2_with fail
                  go_ret
                  exact ⟨by rw [HM.out]; rfl, HB4.out⟩
              · have hge : ¬ (q : Int) < (l.length : Int) := by omega
                have HM : Hid (chk st pRoot k l = 0) := chk_good ⟨HST.out, HCV.out, h64, (fun h => HNR.out h.2), fun i n hn => HQ.out i n (by have := (List.getElem?_eq_some_iff.1 hn).1; omega) hn⟩
                go_wp2_with fail
                go_ret
                exact ⟨by rw [HM.out]; rfl, HB.out⟩
        · have hrt' : ¬ p.toList = [47] := fun e => hrt (by
            have := toList_ne hrt
            exact absurd e (by simpa using this))
          have HNR : Hid (¬ (p = pRoot ∧ l = [])) := fun h => hrt h.1
          clear hrt
          go_enter Tryz.func14, Tryz.ntmps14
          go_wp2_with fail
          refine (HN.out _).mono ?_
          rintro e w1 ⟨rfl, rfl⟩
          go_wp2_with fail
          refine Calls.mono HF.out ?_
          rintro e w2 ⟨rfl, hb2⟩
          have HB2 : Hid (Below w.heap.size w w2) := trans2 HB0.out hb2
          have HA2 : Hid (w2.heap[w.heap.size]? = some (.cells (shA st p k a l.length c) 24 (0, 0))) := kept_block hb2 HA0.out
          obtain ⟨a0, a1, a2, a3⟩ := cells_4 HA2.out
          clear hb2
          go_wp2_with fail
          clear a0 a1 a2 a3 hrt'
          go_loopw [34] (fun i wr => ∃ q : Nat, i = .int .i64 q ∧ q ≤ l.length ∧ Hid (∀ (i : Nat) (n : SeenT), i < q → l[i]? = some n → mayB k p (l.take i) n = true) ∧ Hid (wr.heap[w.heap.size]? = some (.cells (shA st p k a l.length c) 24 (0, 0))) ∧ Hid (Below w.heap.size w wr)) (fun i _ => l.length - (intOf i).toNat)
          case atStart => exact ⟨0, rfl, Nat.zero_le _, (fun i n h => absurd h (Nat.not_lt_zero _)), HA2.out, HB2.out⟩
          case round =>
            obtain ⟨q, rfl, hq, HQ, HA, HB⟩ := hrel
            by_cases hlt : q < l.length
            · have hlt' : (q : Int) < (l.length : Int) := by omega
              obtain ⟨n, hn⟩ : ∃ n, l[q]? = some n := ⟨l[q], List.getElem?_eq_getElem hlt⟩
              obtain ⟨b, o, rfl, hb, x0, x1, x2⟩ := (HS.out.below HB.out).at hn
              have HX : Hid (l[q]? = some n) := hn
              have hqc : (q : Int) ≤ (c : Int) := by omega
              have hwl : w.heap.size < wr.heap.size := lt_of_blk HA.out
              have HA1 : Hid ((wr.alloc (.cells (seC n) 52)).heap[w.heap.size]? = some (.cells (shA st p k (some ⟨b, o, none⟩) l.length c) 24 (0, 0))) := new_old HA.out _
              have HB1 : Hid (Below w.heap.size w (wr.alloc (.cells (seC n) 52))) := HB.out.alloc HB.out.size _
              have HN1 : Hid ((wr.alloc (.cells (seC n) 52)).heap[wr.heap.size]? = some (.cells (seC n) 52 (0, 0))) := heap_alloc_new _ _
              have HMH : Hid (∀ w', Below w.heap.size w w' → Calls Tryz.prog 31 #[.agg (shA st p k (some ⟨b, o, none⟩) l.length c), .slice (some ⟨b, o, none⟩) q c, .agg (seC n)] w' fun e w'' => e = .returned (.bool (mayB k p (l.take q) n)) ∧ Below w'.heap.size w' w'') := fun w' hb' => by
                have hle : (l.take q).length = q := by rw [List.length_take]; omega
                have := mayHave_any st p k (some ⟨b, o, none⟩) l.length c (some ⟨b, o, none⟩) c (l.take q) n w' (HG.out.below hb') ((HS.out.below hb').take q) (by omega) (fun s hs => HOK.out s (List.mem_of_mem_take hs)) (HOK.out n (List.mem_of_getElem? HX.out)) (asc_of_may q (by omega) HQ.out)
                rw [hle] at this
                exact this
              clear hn
              go_wp2_with fail
              clear x0 x1 x2
              obtain ⟨a0, a1, a2, a3⟩ := cells_4 HA1.out
              obtain ⟨n0, n1, n2⟩ := cells_3 HN1.out
              obtain ⟨r, hr⟩ : ∃ r, mayB k p (l.take q) n = r := ⟨_, rfl⟩
              have HR : Hid (mayB k p (l.take q) n = r) := hr
              clear hr
              go_region_held3 (fun w' => w'.cell? ⟨w.heap.size, 0, none⟩ = some (.int .i64 st) ∧ w'.cell? ⟨w.heap.size, 1, none⟩ = some (.string p) ∧ w'.cell? ⟨w.heap.size, 2, none⟩ = some (.int .i64 k) ∧ w'.cell? ⟨w.heap.size, 3, none⟩ = some (.slice (some ⟨b, o, none⟩) l.length c) ∧ w'.cell? ⟨wr.heap.size, 0, none⟩ = some (.string n.p) ∧ w'.cell? ⟨wr.heap.size, 1, none⟩ = some (.string n.d) ∧ w'.cell? ⟨wr.heap.size, 2, none⟩ = some (.int .i64 n.v)) (first | go_keep | exact ⟨a0, a1, a2, a3, n0, n1, n2⟩)
                (first
                | (go_at_call 31; refine (HMH.out _ (below_drew HB1.out)).mono ?_; rintro e w4 ⟨he, hb4⟩
                   have he' : e = .returned (.bool r) := he.trans (by rw [HR.out])
                   subst he'
                   have HB4 : Hid (Below w.heap.size w w4) := trans2 HB1.out (of_drew hb4)
                   have HA4 : Hid _ := kept_block (W := World.drew _) hb4 HA1.out
                   have HN4 : Hid _ := kept_block (W := World.drew _) hb4 HN1.out
                   clear he hb4 a0 a1 a2 a3 n0 n1 n2
                   obtain ⟨a0, a1, a2, a3⟩ := cells_4 HA4.out
                   obtain ⟨n0, n1, n2⟩ := cells_3 HN4.out)
                | fail)
              cases hrv : r with
              | true =>
                subst hrv
                go_wp2_with fail
                go_roundw
                case rel =>
                  refine ⟨q + 1, by go_num, by omega, fun i m hi hm => ?_, HA4.out, HB4.out⟩
                  by_cases hiq : i = q
                  · subst hiq
                    rw [HX.out] at hm
                    cases hm
                    exact HR.out
                  · exact HQ.out i m (by omega) hm
                case measure => simp [intOf]; omega
              | false =>
                subst hrv
                have HM : Hid (chk st p k l = 51) := chk_bad (fun h => by have := h.2.2.2.2 q n HX.out; rw [HR.out] at this; cases this)
                go_wp2_with fail
                go_ret
                exact ⟨by rw [HM.out]; rfl, HB4.out⟩
            · have hge : ¬ (q : Int) < (l.length : Int) := by omega
              have HM : Hid (chk st p k l = 0) := chk_good ⟨HST.out, HCV.out, h64, HNR.out, fun i n hn => HQ.out i n (by have := (List.getElem?_eq_some_iff.1 hn).1; omega) hn⟩
              go_wp2_with fail
              go_ret
              exact ⟨by rw [HM.out]; rfl, HB.out⟩
      · have h64' : ¬ (l.length : Int) ≤ 64 := by omega
        have HM : Hid (chk st p k l = 51) := chk_bad (fun h => h64 h.2.2.1)
        go_enter Tryz.func14, Tryz.ntmps14
        go_wp2_with fail
        refine (HN.out _).mono ?_
        rintro e w1 ⟨rfl, rfl⟩
        go_wp2_with fail
        refine Calls.mono HF.out ?_
        rintro e w2 ⟨rfl, hb2⟩
        have HB2 : Hid (Below w.heap.size w w2) := trans2 HB0.out hb2
        have HA2 : Hid (w2.heap[w.heap.size]? = some (.cells (shA st p k a l.length c) 24 (0, 0))) := kept_block hb2 HA0.out
        obtain ⟨a0, a1, a2, a3⟩ := cells_4 HA2.out
        clear hb2
        go_wp2_with fail
        go_ret
        exact ⟨by rw [HM.out]; rfl, HB2.out⟩
end Go.Proofs.YtbamkdohaofgdaaGreatDoor
