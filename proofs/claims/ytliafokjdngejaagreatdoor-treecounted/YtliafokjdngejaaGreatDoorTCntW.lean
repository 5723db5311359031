/-
  TreeCounted: the walk (written by mkcnt.py).
-/
import Derived.Test.YtliafokjdngejaaGreatDoorTCntP
import Derived.Test.YtliafokjdngejaaGreatDoorTKnown
import Derived.Test.YtliafokjdngejaaGreatDoorRowsy
namespace Go.Proofs.YtliafokjdngejaaGreatDoor
open Go.RowKit Go.Maps Go.WideShapes
set_option linter.unusedVariables false
set_option linter.unusedSimpArgs false
attribute [local go_sem ↓] Go.wp_at_zero Go.wp_at_succ

theorem ops_cells (w : World) (B b : Nat) (os : List OpT) (hB : b < B) (h : w.heap[b]? = some (.cells (opCs os).toArray 33 (0, 0))) : OpsAt w B (some ⟨b, 0, none⟩) os := by
  intro i o hi
  refine ⟨b, 0, rfl, hB, fun j x hx => ?_⟩
  have h9 : (opCs os)[i * 5 + j]? = some x := flat_at OpT.cells 5 (fun _ => rfl) os i j o x hi hx
  rw [Nat.zero_add]
  unfold World.cell?
  rw [h]
  simp [h9]
/-- A request of new ops. -/
theorem play_new (B tb q : Nat) (T : List Nd) (st : Int) (os : List OpT) (w w1 : World) (hb : Below w.heap.size w w1) (hg : GroundT w) (hgc : GroundC w) (h : TrAt w B tb q T) (hq : q ≤ 900) (hs : w1.heap.size = w.heap.size + 1) (hc : w1.heap[w.heap.size]? = some (.cells (opCs os).toArray 33 (0, 0))) (hok : ∀ o ∈ os, o.Ok) (M : PlayR) (hM : playM T 1 st os = M) (n : Nat) (hn : os.length = n) :
    Calls Tryz.prog 10 #[.pointer (some ⟨tb, 0, none⟩), .int .i64 1, .int .i64 st, .slice (some ⟨w.heap.size, 0, none⟩) n n] w1 fun e w' => ∃ L ra rc ca cc, e = .returned (.tuple #[.agg #[.int .i64 st, .int .i64 M.code, .int .i64 M.at', .slice ra M.R.length rc], .slice ca M.C.length cc]) ∧ L.map RsT.r = M.R ∧ RsAt w' w1.heap.size (.slice ra L.length rc) L.length L ∧ TrAt w' B tb (q + 1) M.T ∧ Chg w w' (fun k => k = tb) := by
  subst hM hn
  refine Calls.mono (play_tr B tb q T 1 st (some ⟨w.heap.size, 0, none⟩) os.length os w1 (hg.below hb) (hgc.below hb) (h.below hb) hq (ops_cells w1 _ _ os (by omega) hc) hok) ?_
  rintro e w' ⟨L, rv, chV, rfl, hL, hRs, hch, ht, hc'⟩
  obtain ⟨ra, rc, rfl⟩ := slice_of hRs.row
  obtain ⟨ca, cc, rfl⟩ := slice_of hch
  have hLn : L.length = (playM T 1 st os).R.length := by have h9 := congrArg List.length hL; rw [List.length_map] at h9; exact h9
  exact ⟨L, ra, rc, ca, cc, by rw [hLn], hL, hRs, ht, (Chg.of_below hb _).trans hc'⟩
theorem opOk (k : Int) (p d : ByteArray) (v f : Int) (h : -9223372036854775808 ≤ f ∧ f < 9223372036854775808) : OpT.Ok ⟨k, p, d, v, f⟩ := h
/-- What Join answers. -/
theorem join_cases (b : ByteArray) : ((join pQ [b]).1 = 0 ∧ CP (join pQ [b]).2 b) ∨ (malC 1 1 (join pQ [b]).2 ⟨#[]⟩ 2 ≠ 0 ∧ ∀ (n : Int) (w : World), Ground w → Calls Tryz.prog 13 #[.string (join pQ [b]).2, .int .i64 n] w fun e w' => ∃ f : Int, e = .returned (.tuple #[.string ⟨#[]⟩, .int .i64 f]) ∧ ((join pQ [b]).1 ≠ 0 ∨ f ≠ 0) ∧ Below w.heap.size w w') := by
  have hpq : parse pQ = (0, [mk [113]]) := by kernel_rfl
  by_cases hb : isNm b = true
  · have e : join pQ [b] = (0, placeB [mk [113], b]) := by
      unfold join
      rw [hpq]
      rw [if_neg (by simp), if_pos ⟨by simp, by simp [hb]⟩]
      rfl
    rw [e]
    have hpar : parse (placeB [mk [113], b]) = (0, [mk [113], b]) := parse_place (by simp) (by simp [hb]; kernel_rfl)
    by_cases hs : b.size ≤ 11
    · exact .inl ⟨rfl, hpar, hs⟩
    · refine .inr ⟨?_, fun n w hg => ?_⟩
      · unfold malC
        rw [if_neg (by omega), if_neg (by omega), if_pos]
        · decide
        · refine .inr ⟨⟨rfl, by omega⟩, ?_⟩
          unfold lastN
          rw [hpar]
          show 11 < b.size
          omega
      · refine Calls.mono (counted_long n hpar (by simp) b rfl (by omega) w hg) ?_
        rintro e' w' ⟨rfl, h⟩
        exact ⟨10, rfl, .inr (by decide), h⟩
  · have e : join pQ [b] = (10, ⟨#[]⟩) := by
      unfold join
      rw [hpq]
      rw [if_neg (by simp), if_neg (fun h => hb (by have := h.2; simpa using this))]
    rw [e]
    obtain ⟨c0, hc0, hpe⟩ : ∃ c : Int, c ≠ 0 ∧ parse ⟨#[]⟩ = (c, []) := ⟨(parse ⟨#[]⟩).1, by decide +kernel, by kernel_rfl⟩
    refine .inr ⟨?_, fun n w hg => ?_⟩
    · unfold malC
      rw [if_neg (by omega), if_neg (by omega), if_pos]
      · decide
      · exact .inl (by rw [hpe]; exact hc0)
    · refine Calls.mono (counted_err n hpe hc0 w hg) ?_
      rintro e' w' ⟨rfl, h⟩
      exact ⟨c0, rfl, .inl (by decide), h⟩
theorem play_bad1 {p : ByteArray} (h : malC 1 1 p ⟨#[]⟩ 2 ≠ 0) (T : List Nd) : (playM T 1 2 [⟨1, p, ⟨#[]⟩, 0, 2⟩]).code ≠ 0 ∧ (playM T 1 2 [⟨1, p, ⟨#[]⟩, 0, 2⟩]).T = T := by
  have e : (oneM T 1 2 ⟨1, p, ⟨#[]⟩, 0, 2⟩).1 = malC 1 1 p ⟨#[]⟩ 2 := by
    unfold oneM
    rw [if_pos h]
  rw [play_one, if_pos (by rw [e]; exact h)]
  exact ⟨by show (oneM _ 1 2 _).1 ≠ 0; rw [e]; exact h, rfl⟩

set_option maxHeartbeats 16000000 in
set_option maxRecDepth 100000 in
theorem TreeCounted_walk (W : World) (b : ByteArray) (a : Option Addr) (c : Nat) (zs : List Int) (hi : Ints W a zs) (hg : GroundT W) (hgc : GroundC W) :
    Calls Tryz.prog 3 #[.string b, .slice a zs.length c] W fun e w' => e = .returned (.bool true) ∧ Below W.heap.size W w' := by
  have HI : Hid (Ints W a zs) := hi
  have HG : Hid (GroundT W) := hg
  have HGC : Hid (GroundC W) := hgc
  have HNW : Hid _ := new_tr W
  clear hi hg hgc
  go_enter Tryz.func3, Tryz.ntmps3
  go_wp2_with (first
    | (go_at_call 9; refine Calls.mono HNW.out ?_; rintro e w1 ⟨tb, rfl, ht1, hb1⟩
       have HT1 : Hid (TrAt w1 W.heap.size tb 0 [rootN]) := ht1
       have HB1 : Hid (Below W.heap.size W w1) := hb1
       clear ht1 hb1)
    | fail)
  obtain ⟨p, hp⟩ : ∃ p, (join pQ [b]).2 = p := ⟨_, rfl⟩
  obtain ⟨je, hje⟩ : ∃ je, (join pQ [b]).1 = je := ⟨_, rfl⟩
  have HJC : Hid _ := join_cases b
  rw [hp, hje] at HJC
  obtain ⟨M, hM⟩ : ∃ M, playM [rootN] 1 1 [⟨1, pQ, ⟨#[]⟩, 0, 0⟩] = M := ⟨_, rfl⟩
  have hfirst := CG.first p
  rw [hM] at hfirst
  have HF : Hid (M.code = 0) := hfirst.1
  have HCG0 : Hid (CG p M.T 0) := hfirst.2
  clear hfirst
  refine Calls.mono (play_new W.heap.size tb 0 [rootN] 1 [⟨1, pQ, ⟨#[]⟩, 0, 0⟩] w1 (w1.alloc (.cells #[.int .i64 1, .string pQ, .string ⟨#[]⟩, .int .i64 0, .int .i64 0] 33)) ((Below.refl _ _).alloc (Nat.le_refl _) _) (HG.out.below HB1.out) (HGC.out.below HB1.out) HT1.out (by omega) (by simp) (heap_alloc_new _ _) (fun o ho => by first | (obtain rfl := List.mem_singleton.1 ho; exact opOk _ _ _ _ _ ⟨by decide, by decide⟩) | (rcases List.mem_cons.1 ho with rfl | ho; exact opOk _ _ _ _ _ ⟨by decide, by decide⟩; obtain rfl := List.mem_singleton.1 ho; exact opOk _ _ _ _ _ ⟨by decide, by decide⟩)) _ hM 1 rfl) ?_
  rintro e w3 ⟨L, ra, rc, ca, cc, rfl, _, _, ht3, hc3⟩
  have HT3 : Hid (TrAt w3 W.heap.size tb 1 M.T) := ht3
  have HB3 : Hid (Below W.heap.size W w3) := HB1.out.trans (chg_lo hc3 HT1.out.lo HB1.out.size)
  rw [HF.out]
  clear ht3 hc3 hM
  go_upto_region 5 with fail
  obtain ⟨w4, hw4⟩ : ∃ y, w3.alloc (.cells #[.int .i64 1, .int .i64 0, .int .i64 M.at', .slice ra M.R.length rc] 28) = y := ⟨_, rfl⟩
  obtain ⟨rb, hrb⟩ : ∃ y, w3.heap.size = y := ⟨_, rfl⟩
  have hb4 : Below w3.heap.size w3 w4 := by rw [← hw4]; exact (Below.refl _ _).alloc (Nat.le_refl _) _
  have HT4 : Hid (TrAt w4 W.heap.size tb 1 M.T) := HT3.out.below hb4
  have HB4 : Hid (Below W.heap.size W w4) := trans2 HB3.out hb4
  have HP4 : Hid (w4.heap[rb]? = some (.cells #[.int .i64 1, .int .i64 0, .int .i64 M.at', .slice ra M.R.length rc] 28 (0, 0))) := by rw [← hw4, ← hrb]; exact heap_alloc_new _ _
  rw [hw4, hrb]
  clear hw4 hrb hb4
  have HJN : Hid (Calls Tryz.prog 11 #[.string pQ, .slice (some ⟨w4.heap.size, 0, none⟩) 1 1] (w4.alloc (.cells #[.string b] 9)) fun e w' => e = .returned (.tuple #[.string p, .int .i64 je]) ∧ Below w4.heap.size w4 w') := by
    have h9 := join_any pQ (some ⟨w4.heap.size, 0, none⟩) 1 [b] (w4.alloc (.cells #[.string b] 9)) (HG.out.below (HB4.out.alloc HB4.out.size _)).toGround (.inr ⟨w4.heap.size, 0, rfl, by simp, fun j x hx => by
      have hb9 : (w4.alloc (.cells #[.string b] 9)).heap[w4.heap.size]? = some (.cells #[.string b] 9 (0, 0)) := heap_alloc_new _ _
      cases j with
      | zero =>
        obtain rfl : b = x := by simpa using hx
        exact cells_1 hb9
      | succ j => simp at hx⟩) (fun h => by cases h) (by simp)
    rw [hp, hje] at h9
    refine Calls.mono h9 ?_
    rintro e w' ⟨rfl, hb⟩
    exact ⟨rfl, trans2 ((Below.refl _ _).alloc (Nat.le_refl _) _) hb⟩
  clear hp hje
  go_wp2_with fail
  refine Calls.mono HJN.out ?_
  rintro e w6 ⟨rfl, hb6⟩
  have HT6 : Hid (TrAt w6 W.heap.size tb (0 + 1) M.T) := HT4.out.below hb6
  have HB6 : Hid (Below W.heap.size W w6) := trans2 HB4.out hb6
  have HP6 : Hid _ := kept_block hb6 HP4.out
  clear hb6
  obtain ⟨p0, p1, p2, p3⟩ := cells_4 HP6.out
  obtain ⟨T1, hT1⟩ : ∃ T1, M.T = T1 := ⟨_, rfl⟩
  rw [hT1] at HT6 HCG0
  clear hT1
  rcases HJC.out with ⟨rfl, hcp⟩ | ⟨hml, hct⟩
  · have HCP : Hid (CP p b) := hcp
    have HCG : Hid (CG p T1 0) := HCG0.out
    clear hcp
    go_wp2_with (first | (go_at_call 12; refine Calls.mono (numT_any _ _) ?_; rintro e w' ⟨rfl, hw'⟩; have hw9 := hw'.symm; subst hw9; clear hw') | fail)
    have hdone : True := trivial
    go_loopw [10, 11, 12] (fun cv lv i wr => ∃ (q n : Nat) (T : List Nd) (la : ByteArray), i = .int .i64 q ∧ cv = .int .i64 n ∧ lv = .string la ∧ q ≤ zs.length ∧ q ≤ 60 ∧ n ≤ q ∧ Hid (TrAt wr W.heap.size tb (q + 1) T) ∧ Hid (CG p T n ∧ (la = ⟨#[]⟩ ∨ ∃ j, j < n ∧ la = cnt p j)) ∧ Hid (Below W.heap.size W wr)) (fun _ _ i _ => zs.length - (intOf i).toNat)
    case atStart => exact ⟨0, 0, T1, ⟨#[]⟩, rfl, rfl, rfl, Nat.zero_le _, Nat.zero_le _, Nat.zero_le _, HT6.out, ⟨HCG.out, .inl rfl⟩, HB6.out⟩
    case round =>
      obtain ⟨q, n, T, la, rfl, rfl, rfl, hq, hq2, hnq, HTq, HGq, HBq⟩ := hrel
      by_cases hlt : q < zs.length
      · have hlt' : (q : Int) < (zs.length : Int) := by omega
        by_cases h60 : q < 60
        · have h60' : (q : Int) < 60 := by omega
          obtain ⟨z, hz⟩ : ∃ z, zs[q]? = some z := ⟨zs[q], List.getElem?_eq_getElem hlt⟩
          obtain ⟨ib, io, rfl, hil, hic⟩ : ∃ b o, a = some ⟨b, o, none⟩ ∧ b < W.heap.size ∧ ∀ (j : Nat) (z : Int), zs[j]? = some z → W.cell? ⟨b, o + j, none⟩ = some (.int .i64 z) := by
            rcases HI.out with h | h
            · rw [h] at hlt
              simp at hlt
            · exact h
          have i0 : wr.cell? ⟨ib, io + q, none⟩ = some (.int .i64 z) := by rw [HBq.out.cell (p := ⟨ib, io + q, none⟩) hil]; exact hic q z hz
          have HBS : Hid (W.heap.size ≤ tb) := HTq.out.lo
          clear hz hic
          by_cases z0 : z = 0
          · subst z0
            clear hil
            obtain ⟨M, hM⟩ : ∃ M, playM T 1 2 [⟨3, la, ⟨#[]⟩, -1, 0⟩] = M := ⟨_, rfl⟩
            have HN : Hid (CG p M.T n ∧ (la = ⟨#[]⟩ ∨ ∃ j, j < n ∧ la = cnt p j)) := ⟨by rw [← hM, play_oneT]; exact HGq.out.1.drop (by omega) HGq.out.2, HGq.out.2⟩
            go_wp2_with fail
            refine Calls.mono (play_new W.heap.size tb (q + 1) T 2 [⟨3, la, ⟨#[]⟩, (-1), 0⟩] wr (wr.alloc (.cells #[.int .i64 3, .string la, .string ⟨#[]⟩, .int .i64 (-1), .int .i64 0] 33)) ((Below.refl _ _).alloc (Nat.le_refl _) _) (HG.out.below HBq.out) (HGC.out.below HBq.out) HTq.out (by omega) (by simp) (heap_alloc_new _ _) (fun o ho => by first | (obtain rfl := List.mem_singleton.1 ho; exact opOk _ _ _ _ _ ⟨by decide, by decide⟩) | (rcases List.mem_cons.1 ho with rfl | ho; exact opOk _ _ _ _ _ ⟨by decide, by decide⟩; obtain rfl := List.mem_singleton.1 ho; exact opOk _ _ _ _ _ ⟨by decide, by decide⟩)) _ hM 1 rfl) ?_
            rintro e w3 ⟨L, ra, rc, ca, cc, rfl, _, _, ht3, hc3⟩
            have HT3 : Hid (TrAt w3 W.heap.size tb (q + 1 + 1) M.T) := ht3
            have HB3 : Hid (Below W.heap.size W w3) := HBq.out.trans (chg_lo hc3 HBS.out HBq.out.size)
            clear ht3 hc3 hM
            go_wp2_with fail
            go_roundw
            case rel => exact ⟨q + 1, n, M.T, la, by go_num, rfl, rfl, by omega, by omega, by omega, HT3.out, HN.out, HB3.out⟩
            case measure => simp [intOf]; omega
          by_cases z1 : z = 1
          · subst z1
            clear hil z0
            obtain ⟨M, hM⟩ : ∃ M, playM T 1 2 [⟨1, p, ⟨#[]⟩, 0, 2⟩, ⟨3, pRt, ⟨#[]⟩, 0, 0⟩] = M := ⟨_, rfl⟩
            obtain ⟨m1, m2⟩ := play_two T ⟨1, p, ⟨#[]⟩, 0, 2⟩
            rw [hM] at m1 m2
            have HC : Hid ((M.code == 0) = false) := by show _ = _; simpa using m1
            have HM2 : Hid (M.T = T) := m2
            go_wp2_with fail
            refine Calls.mono (play_new W.heap.size tb (q + 1) T 2 [⟨1, p, ⟨#[]⟩, 0, 2⟩, ⟨3, pRt, ⟨#[]⟩, 0, 0⟩] wr (wr.alloc (.cells #[.int .i64 1, .string p, .string ⟨#[]⟩, .int .i64 0, .int .i64 2, .int .i64 3, .string pRt, .string ⟨#[]⟩, .int .i64 0, .int .i64 0] 33)) ((Below.refl _ _).alloc (Nat.le_refl _) _) (HG.out.below HBq.out) (HGC.out.below HBq.out) HTq.out (by omega) (by simp) (heap_alloc_new _ _) (fun o ho => by first | (obtain rfl := List.mem_singleton.1 ho; exact opOk _ _ _ _ _ ⟨by decide, by decide⟩) | (rcases List.mem_cons.1 ho with rfl | ho; exact opOk _ _ _ _ _ ⟨by decide, by decide⟩; obtain rfl := List.mem_singleton.1 ho; exact opOk _ _ _ _ _ ⟨by decide, by decide⟩)) _ hM 2 rfl) ?_
            rintro e w3 ⟨L, ra, rc, ca, cc, rfl, _, _, ht3, hc3⟩
            have HT3 : Hid (TrAt w3 W.heap.size tb (q + 1 + 1) T) := by rw [← HM2.out]; exact ht3
            have HB3 : Hid (Below W.heap.size W w3) := HBq.out.trans (chg_lo hc3 HBS.out HBq.out.size)
            have hcd := HC.out
            clear ht3 hc3 hM m1 m2
            go_wp2_with (first | (go_at_call 12; refine Calls.mono (numT_any _ _) ?_; rintro e w' ⟨rfl, hw'⟩; have hw9 := hw'.symm; subst hw9; clear hw') | fail)
            go_roundw
            case rel => exact ⟨q + 1, n, T, la, by go_num, rfl, rfl, by omega, by omega, by omega, HT3.out.below ((Below.refl _ _).alloc (Nat.le_refl _) _), HGq.out, HB3.out.alloc HB3.out.size _⟩
            case measure => simp [intOf]; omega
          by_cases z2 : z = 2
          · subst z2
            clear hil z0 z1
            obtain ⟨M, hM⟩ : ∃ M, playM T 1 2 [⟨1, pP, ⟨#[]⟩, 0, 0⟩] = M := ⟨_, rfl⟩
            have HN : Hid (CG p M.T n ∧ (la = ⟨#[]⟩ ∨ ∃ j, j < n ∧ la = cnt p j)) := ⟨by rw [← hM, play_oneT]; exact HGq.out.1.plain HCP.out, HGq.out.2⟩
            go_wp2_with fail
            refine Calls.mono (play_new W.heap.size tb (q + 1) T 2 [⟨1, pP, ⟨#[]⟩, 0, 0⟩] wr (wr.alloc (.cells #[.int .i64 1, .string pP, .string ⟨#[]⟩, .int .i64 0, .int .i64 0] 33)) ((Below.refl _ _).alloc (Nat.le_refl _) _) (HG.out.below HBq.out) (HGC.out.below HBq.out) HTq.out (by omega) (by simp) (heap_alloc_new _ _) (fun o ho => by first | (obtain rfl := List.mem_singleton.1 ho; exact opOk _ _ _ _ _ ⟨by decide, by decide⟩) | (rcases List.mem_cons.1 ho with rfl | ho; exact opOk _ _ _ _ _ ⟨by decide, by decide⟩; obtain rfl := List.mem_singleton.1 ho; exact opOk _ _ _ _ _ ⟨by decide, by decide⟩)) _ hM 1 rfl) ?_
            rintro e w3 ⟨L, ra, rc, ca, cc, rfl, _, _, ht3, hc3⟩
            have HT3 : Hid (TrAt w3 W.heap.size tb (q + 1 + 1) M.T) := ht3
            have HB3 : Hid (Below W.heap.size W w3) := HBq.out.trans (chg_lo hc3 HBS.out HBq.out.size)
            clear ht3 hc3 hM
            go_wp2_with fail
            go_roundw
            case rel => exact ⟨q + 1, n, M.T, la, by go_num, rfl, rfl, by omega, by omega, by omega, HT3.out, HN.out, HB3.out⟩
            case measure => simp [intOf]; omega
          · have y0 : (z == 0) = false := by simpa using z0
            have y1 : (z == 1) = false := by simpa using z1
            have y2 : (z == 2) = false := by simpa using z2
            clear hil z0 z1 z2
            obtain ⟨T', hone, hcg⟩ := HGq.out.1.make HCP.out (by omega)
            have hM : playM T 1 2 [⟨1, p, ⟨#[]⟩, 0, 2⟩] = ⟨0, 0, T', [⟨cnt p n, ⟨#[]⟩, 0, 2, 2, 0, []⟩], [⟨1, cnt p n, ⟨#[]⟩, 0⟩]⟩ := by rw [play_one, hone]; rfl
            have HCG2 : Hid (CG p T' (n + 1)) := hcg
            have HMM : Hid _ := hM
            have HCT : Hid (Calls Tryz.prog 13 #[.string p, .int .i64 (n : Int)] wr fun e w' => e = .returned (.tuple #[.string (cnt p n), .int .i64 0]) ∧ Below wr.heap.size wr w') := counted_good (by omega) HCP.out.par 1 rfl b rfl HCP.out.siz wr (HGC.out.below HBq.out)
            clear hone hcg hM
            go_wp2_with fail
            refine Calls.mono HCT.out ?_
            rintro e w2 ⟨rfl, hb2⟩
            have HB2 : Hid (Below W.heap.size W w2) := trans2 HBq.out hb2
            have HT2 : Hid (TrAt w2 W.heap.size tb (q + 1) T) := HTq.out.below hb2
            clear hb2
            go_wp2_with fail
            refine Calls.mono (play_new W.heap.size tb (q + 1) T 2 [⟨1, p, ⟨#[]⟩, 0, 2⟩] w2 (w2.alloc (.cells #[.int .i64 1, .string p, .string ⟨#[]⟩, .int .i64 0, .int .i64 2] 33)) ((Below.refl _ _).alloc (Nat.le_refl _) _) (HG.out.below HB2.out) (HGC.out.below HB2.out) HT2.out (by omega) (by simp) (heap_alloc_new _ _) (fun o ho => by first | (obtain rfl := List.mem_singleton.1 ho; exact opOk _ _ _ _ _ ⟨by decide, by decide⟩) | (rcases List.mem_cons.1 ho with rfl | ho; exact opOk _ _ _ _ _ ⟨by decide, by decide⟩; obtain rfl := List.mem_singleton.1 ho; exact opOk _ _ _ _ _ ⟨by decide, by decide⟩)) _ HMM.out 1 rfl) ?_
            rintro e w3 ⟨L, ra, rc, ca, cc, rfl, hL, hRs, ht3, hc3⟩
            have HT3 : Hid (TrAt w3 W.heap.size tb (q + 1 + 1) T') := ht3
            have HB3 : Hid (Below W.heap.size W w3) := HB2.out.trans (chg_lo hc3 HBS.out HB2.out.size)
            obtain ⟨y, rfl⟩ : ∃ y, L = [y] := List.length_eq_one_iff.1 (by have h9 := congrArg List.length hL; rw [List.length_map] at h9; exact h9)
            have hy : y.r = ⟨cnt p n, ⟨#[]⟩, 0, 2, 2, 0, []⟩ := by simpa using hL
            obtain ⟨rg, rcap, e9⟩ := form_n hRs.row (by simp)
            obtain ⟨rfl, rfl⟩ : ra = some ⟨rg, 0, none⟩ ∧ rc = rcap := by simpa using e9
            have hrl : rg < w3.heap.size := (hRs.row.lt rg rfl).2
            have g0 : w3.cell? ⟨rg, 0, none⟩ = some (.string (cnt p n)) := by
              have h9 := cell_n (k := 0) hRs.row rfl
              rw [hy] at h9
              exact h9
            obtain ⟨cn, hcn⟩ : ∃ cn, cnt p n = cn := ⟨_, rfl⟩
            have HCN : Hid (cnt p n = cn) := hcn
            rw [hcn] at g0 ⊢
            clear ht3 hc3 hL hRs hy e9 hcn
            go_wp2_with (first | (go_at_call 12; refine Calls.mono (numT_any _ _) ?_; rintro e w' ⟨rfl, hw'⟩; have hw9 := hw'.symm; subst hw9; clear hw') | fail)
            go_roundw
            case rel => exact ⟨q + 1, n + 1, T', cn, by go_num, by go_num, rfl, by omega, by omega, by omega, HT3.out.below ((Below.refl _ _).alloc (Nat.le_refl _) _), ⟨HCG2.out, .inr ⟨n, by omega, HCN.out.symm⟩⟩, HB3.out.alloc HB3.out.size _⟩
            case measure => simp [intOf]; omega
        · have h60' : ¬ (q : Int) < 60 := by omega
          go_wp2_with fail
          refine (knownT_any wr (HG.out.below HBq.out)).mono ?_
          rintro e w9 ⟨rfl, hb9⟩
          have HB9 : Hid (Below W.heap.size W w9) := trans2 HBq.out hb9
          clear hb9
          go_wp2_with fail
          go_ret
          exact ⟨rfl, HB9.out⟩
      · have hlt' : ¬ (q : Int) < (zs.length : Int) := by omega
        go_wp2_with fail
        refine (knownT_any wr (HG.out.below HBq.out)).mono ?_
        rintro e w9 ⟨rfl, hb9⟩
        have HB9 : Hid (Below W.heap.size W w9) := trans2 HBq.out hb9
        clear hb9
        go_wp2_with fail
        go_ret
        exact ⟨rfl, HB9.out⟩
  · have HML : Hid (malC 1 1 p ⟨#[]⟩ 2 ≠ 0) := hml
    have HCT : Hid (∀ (n : Int) (w : World), Ground w → Calls Tryz.prog 13 #[.string p, .int .i64 n] w fun e w' => ∃ f : Int, e = .returned (.tuple #[.string ⟨#[]⟩, .int .i64 f]) ∧ (je ≠ 0 ∨ f ≠ 0) ∧ Below w.heap.size w w') := hct
    clear hml hct
    go_wp2_with (first | (go_at_call 12; refine Calls.mono (numT_any _ _) ?_; rintro e w' ⟨rfl, hw'⟩; have hw9 := hw'.symm; subst hw9; clear hw') | fail)
    go_loopw [10, 11, 12] (fun cv lv i wr => ∃ (q n : Nat) (T : List Nd) (la : ByteArray), i = .int .i64 q ∧ cv = .int .i64 n ∧ lv = .string la ∧ q ≤ zs.length ∧ q ≤ 60 ∧ n ≤ q ∧ Hid (TrAt wr W.heap.size tb (q + 1) T) ∧ Hid (n = 0) ∧ Hid (Below W.heap.size W wr)) (fun _ _ i _ => zs.length - (intOf i).toNat)
    case atStart => exact ⟨0, 0, T1, ⟨#[]⟩, rfl, rfl, rfl, Nat.zero_le _, Nat.zero_le _, Nat.zero_le _, HT6.out, rfl, HB6.out⟩
    case round =>
      obtain ⟨q, n, T, la, rfl, rfl, rfl, hq, hq2, hnq, HTq, HGq, HBq⟩ := hrel
      by_cases hlt : q < zs.length
      · have hlt' : (q : Int) < (zs.length : Int) := by omega
        by_cases h60 : q < 60
        · have h60' : (q : Int) < 60 := by omega
          obtain ⟨z, hz⟩ : ∃ z, zs[q]? = some z := ⟨zs[q], List.getElem?_eq_getElem hlt⟩
          obtain ⟨ib, io, rfl, hil, hic⟩ : ∃ b o, a = some ⟨b, o, none⟩ ∧ b < W.heap.size ∧ ∀ (j : Nat) (z : Int), zs[j]? = some z → W.cell? ⟨b, o + j, none⟩ = some (.int .i64 z) := by
            rcases HI.out with h | h
            · rw [h] at hlt
              simp at hlt
            · exact h
          have i0 : wr.cell? ⟨ib, io + q, none⟩ = some (.int .i64 z) := by rw [HBq.out.cell (p := ⟨ib, io + q, none⟩) hil]; exact hic q z hz
          have HBS : Hid (W.heap.size ≤ tb) := HTq.out.lo
          clear hz hic
          by_cases z0 : z = 0
          · subst z0
            clear hil
            obtain ⟨M, hM⟩ : ∃ M, playM T 1 2 [⟨3, la, ⟨#[]⟩, -1, 0⟩] = M := ⟨_, rfl⟩
            have HN : Hid (n = 0) := HGq.out
            go_wp2_with fail
            refine Calls.mono (play_new W.heap.size tb (q + 1) T 2 [⟨3, la, ⟨#[]⟩, (-1), 0⟩] wr (wr.alloc (.cells #[.int .i64 3, .string la, .string ⟨#[]⟩, .int .i64 (-1), .int .i64 0] 33)) ((Below.refl _ _).alloc (Nat.le_refl _) _) (HG.out.below HBq.out) (HGC.out.below HBq.out) HTq.out (by omega) (by simp) (heap_alloc_new _ _) (fun o ho => by first | (obtain rfl := List.mem_singleton.1 ho; exact opOk _ _ _ _ _ ⟨by decide, by decide⟩) | (rcases List.mem_cons.1 ho with rfl | ho; exact opOk _ _ _ _ _ ⟨by decide, by decide⟩; obtain rfl := List.mem_singleton.1 ho; exact opOk _ _ _ _ _ ⟨by decide, by decide⟩)) _ hM 1 rfl) ?_
            rintro e w3 ⟨L, ra, rc, ca, cc, rfl, _, _, ht3, hc3⟩
            have HT3 : Hid (TrAt w3 W.heap.size tb (q + 1 + 1) M.T) := ht3
            have HB3 : Hid (Below W.heap.size W w3) := HBq.out.trans (chg_lo hc3 HBS.out HBq.out.size)
            clear ht3 hc3 hM
            go_wp2_with fail
            go_roundw
            case rel => exact ⟨q + 1, n, M.T, la, by go_num, rfl, rfl, by omega, by omega, by omega, HT3.out, HN.out, HB3.out⟩
            case measure => simp [intOf]; omega
          by_cases z1 : z = 1
          · subst z1
            clear hil z0
            obtain ⟨M, hM⟩ : ∃ M, playM T 1 2 [⟨1, p, ⟨#[]⟩, 0, 2⟩, ⟨3, pRt, ⟨#[]⟩, 0, 0⟩] = M := ⟨_, rfl⟩
            obtain ⟨m1, m2⟩ := play_two T ⟨1, p, ⟨#[]⟩, 0, 2⟩
            rw [hM] at m1 m2
            have HC : Hid ((M.code == 0) = false) := by show _ = _; simpa using m1
            have HM2 : Hid (M.T = T) := m2
            go_wp2_with fail
            refine Calls.mono (play_new W.heap.size tb (q + 1) T 2 [⟨1, p, ⟨#[]⟩, 0, 2⟩, ⟨3, pRt, ⟨#[]⟩, 0, 0⟩] wr (wr.alloc (.cells #[.int .i64 1, .string p, .string ⟨#[]⟩, .int .i64 0, .int .i64 2, .int .i64 3, .string pRt, .string ⟨#[]⟩, .int .i64 0, .int .i64 0] 33)) ((Below.refl _ _).alloc (Nat.le_refl _) _) (HG.out.below HBq.out) (HGC.out.below HBq.out) HTq.out (by omega) (by simp) (heap_alloc_new _ _) (fun o ho => by first | (obtain rfl := List.mem_singleton.1 ho; exact opOk _ _ _ _ _ ⟨by decide, by decide⟩) | (rcases List.mem_cons.1 ho with rfl | ho; exact opOk _ _ _ _ _ ⟨by decide, by decide⟩; obtain rfl := List.mem_singleton.1 ho; exact opOk _ _ _ _ _ ⟨by decide, by decide⟩)) _ hM 2 rfl) ?_
            rintro e w3 ⟨L, ra, rc, ca, cc, rfl, _, _, ht3, hc3⟩
            have HT3 : Hid (TrAt w3 W.heap.size tb (q + 1 + 1) T) := by rw [← HM2.out]; exact ht3
            have HB3 : Hid (Below W.heap.size W w3) := HBq.out.trans (chg_lo hc3 HBS.out HBq.out.size)
            have hcd := HC.out
            clear ht3 hc3 hM m1 m2
            go_wp2_with (first | (go_at_call 12; refine Calls.mono (numT_any _ _) ?_; rintro e w' ⟨rfl, hw'⟩; have hw9 := hw'.symm; subst hw9; clear hw') | fail)
            go_roundw
            case rel => exact ⟨q + 1, n, T, la, by go_num, rfl, rfl, by omega, by omega, by omega, HT3.out.below ((Below.refl _ _).alloc (Nat.le_refl _) _), HGq.out, HB3.out.alloc HB3.out.size _⟩
            case measure => simp [intOf]; omega
          by_cases z2 : z = 2
          · subst z2
            clear hil z0 z1
            obtain ⟨M, hM⟩ : ∃ M, playM T 1 2 [⟨1, pP, ⟨#[]⟩, 0, 0⟩] = M := ⟨_, rfl⟩
            have HN : Hid (n = 0) := HGq.out
            go_wp2_with fail
            refine Calls.mono (play_new W.heap.size tb (q + 1) T 2 [⟨1, pP, ⟨#[]⟩, 0, 0⟩] wr (wr.alloc (.cells #[.int .i64 1, .string pP, .string ⟨#[]⟩, .int .i64 0, .int .i64 0] 33)) ((Below.refl _ _).alloc (Nat.le_refl _) _) (HG.out.below HBq.out) (HGC.out.below HBq.out) HTq.out (by omega) (by simp) (heap_alloc_new _ _) (fun o ho => by first | (obtain rfl := List.mem_singleton.1 ho; exact opOk _ _ _ _ _ ⟨by decide, by decide⟩) | (rcases List.mem_cons.1 ho with rfl | ho; exact opOk _ _ _ _ _ ⟨by decide, by decide⟩; obtain rfl := List.mem_singleton.1 ho; exact opOk _ _ _ _ _ ⟨by decide, by decide⟩)) _ hM 1 rfl) ?_
            rintro e w3 ⟨L, ra, rc, ca, cc, rfl, _, _, ht3, hc3⟩
            have HT3 : Hid (TrAt w3 W.heap.size tb (q + 1 + 1) M.T) := ht3
            have HB3 : Hid (Below W.heap.size W w3) := HBq.out.trans (chg_lo hc3 HBS.out HBq.out.size)
            clear ht3 hc3 hM
            go_wp2_with fail
            go_roundw
            case rel => exact ⟨q + 1, n, M.T, la, by go_num, rfl, rfl, by omega, by omega, by omega, HT3.out, HN.out, HB3.out⟩
            case measure => simp [intOf]; omega
          · have y0 : (z == 0) = false := by simpa using z0
            have y1 : (z == 1) = false := by simpa using z1
            have y2 : (z == 2) = false := by simpa using z2
            clear hil z0 z1 z2
            have HN0 : Hid (n = 0) := HGq.out
            obtain ⟨M, hM⟩ : ∃ M, playM T 1 2 [⟨1, p, ⟨#[]⟩, 0, 2⟩] = M := ⟨_, rfl⟩
            obtain ⟨m1, m2⟩ := play_bad1 HML.out T
            rw [hM] at m1 m2
            have HC : Hid ((M.code == 0) = false) := by show _ = _; simpa using m1
            have HM2 : Hid (M.T = T) := m2
            have HMM : Hid _ := hM
            clear hM m1 m2
            go_wp2_with fail
            refine Calls.mono (HCT.out n wr (HG.out.below HBq.out).toGround) ?_
            rintro e w2 ⟨fc, rfl, hfc, hb2⟩
            have HB2 : Hid (Below W.heap.size W w2) := trans2 HBq.out hb2
            have HT2 : Hid (TrAt w2 W.heap.size tb (q + 1) T) := HTq.out.below hb2
            have HFC : Hid (je ≠ 0 ∨ fc ≠ 0) := hfc
            clear hb2 hfc
            go_wp2_with fail
            refine Calls.mono (play_new W.heap.size tb (q + 1) T 2 [⟨1, p, ⟨#[]⟩, 0, 2⟩] w2 (w2.alloc (.cells #[.int .i64 1, .string p, .string ⟨#[]⟩, .int .i64 0, .int .i64 2] 33)) ((Below.refl _ _).alloc (Nat.le_refl _) _) (HG.out.below HB2.out) (HGC.out.below HB2.out) HT2.out (by omega) (by simp) (heap_alloc_new _ _) (fun o ho => by first | (obtain rfl := List.mem_singleton.1 ho; exact opOk _ _ _ _ _ ⟨by decide, by decide⟩) | (rcases List.mem_cons.1 ho with rfl | ho; exact opOk _ _ _ _ _ ⟨by decide, by decide⟩; obtain rfl := List.mem_singleton.1 ho; exact opOk _ _ _ _ _ ⟨by decide, by decide⟩)) _ HMM.out 1 rfl) ?_
            rintro e w3 ⟨L, ra, rc, ca, cc, rfl, _, _, ht3, hc3⟩
            have HT3 : Hid (TrAt w3 W.heap.size tb (q + 1 + 1) T) := by rw [← HM2.out]; exact ht3
            have HB3 : Hid (Below W.heap.size W w3) := HB2.out.trans (chg_lo hc3 HBS.out HB2.out.size)
            have hcd := HC.out
            clear ht3 hc3
            have hcase : (je != 0) = true ∨ ((je != 0) = false ∧ (fc != 0) = true) := by
              by_cases h9 : je = 0
              · refine .inr ⟨by simpa using h9, ?_⟩
                rcases HFC.out with h | h
                · exact absurd h9 h
                · simpa using h
              · exact .inl (by simpa using h9)
            rcases hcase with e1 | ⟨e1, e2⟩
            all_goals (
              go_wp2_with (first | (go_at_call 12; refine Calls.mono (numT_any _ _) ?_; rintro e w' ⟨rfl, hw'⟩; have hw9 := hw'.symm; subst hw9; clear hw') | fail)
              go_roundw
              case rel => exact ⟨q + 1, n, T, la, by go_num, rfl, rfl, by omega, by omega, by omega, HT3.out.below ((Below.refl _ _).alloc (Nat.le_refl _) _), HN0.out, HB3.out.alloc HB3.out.size _⟩
              case measure => simp [intOf]; omega)
        · have h60' : ¬ (q : Int) < 60 := by omega
          go_wp2_with fail
          refine (knownT_any wr (HG.out.below HBq.out)).mono ?_
          rintro e w9 ⟨rfl, hb9⟩
          have HB9 : Hid (Below W.heap.size W w9) := trans2 HBq.out hb9
          clear hb9
          go_wp2_with fail
          go_ret
          exact ⟨rfl, HB9.out⟩
      · have hlt' : ¬ (q : Int) < (zs.length : Int) := by omega
        go_wp2_with fail
        refine (knownT_any wr (HG.out.below HBq.out)).mono ?_
        rintro e w9 ⟨rfl, hb9⟩
        have HB9 : Hid (Below W.heap.size W w9) := trans2 HBq.out hb9
        clear hb9
        go_wp2_with fail
        go_ret
        exact ⟨rfl, HB9.out⟩
end Go.Proofs.YtliafokjdngejaaGreatDoor
