/-
  TreeAll: the walk.
-/
import Derived.Test.YtliafokjdngejaaGreatDoorTAllF
import Derived.Test.YtliafokjdngejaaGreatDoorTKnown
namespace Go.Proofs.YtliafokjdngejaaGreatDoor
open Go.RowKit Go.Maps Go.WideShapes
set_option linter.unusedVariables false
set_option linter.unusedSimpArgs false
attribute [local go_sem ↓] Go.wp_at_zero Go.wp_at_succ

set_option maxHeartbeats 8000000 in
set_option maxRecDepth 100000 in
theorem TreeAll_walk (W : World) (a : Option Addr) (c : Nat) (l : List StT) (hl : l.length ≤ maxLen) (hs : Steps W a l ∧ ∀ x ∈ l, x.os.length ≤ x.c) (hg : GroundT W) (hgc : GroundC W) :
    Calls Tryz.prog 6 #[.slice a l.length c] W fun e w' => e = .returned (.bool true) ∧ Below W.heap.size W w' := by
  unfold maxLen at hl
  have HS : Hid (Steps W a l) := hs.1
  have HCP : Hid (∀ x ∈ l, x.os.length ≤ x.c) := hs.2
  have HG : Hid (GroundT W) := hg
  have HGC : Hid (GroundC W) := hgc
  have HNW : Hid _ := new_tr W
  clear hs hg hgc
  go_enter Tryz.func6, Tryz.ntmps6
  go_wp2_with (first
    | (go_at_call 9; refine Calls.mono HNW.out ?_; rintro e w1 ⟨tb, rfl, ht1, hb1⟩
       have HT1 : Hid (TrAt w1 W.heap.size tb 0 [rootN]) := ht1
       have HB1 : Hid (Below W.heap.size W w1) := hb1
       clear ht1 hb1)
    | fail)
  go_loopw [4] (fun i wr => ∃ (q : Nat) (T : List Nd), i = .int .i64 q ∧ q ≤ l.length ∧ q ≤ 40 ∧ Hid (TrAt wr W.heap.size tb q T) ∧ Hid (Rng T) ∧ Hid (Below W.heap.size W wr)) (fun i _ => l.length - (intOf i).toNat)
  case atStart => exact ⟨0, [rootN], rfl, Nat.zero_le _, Nat.zero_le _, HT1.out, rng_new, HB1.out⟩
  case round =>
    obtain ⟨q, T, rfl, hq, hq2, HTq, HRq, HBq⟩ := hrel
    by_cases hlt : q < l.length
    · have hlt' : (q : Int) < (l.length : Int) := by omega
      by_cases h40 : q < 40
      · have h40' : (q : Int) < 40 := by omega
        obtain ⟨x, hx⟩ : ∃ x, l[q]? = some x := ⟨l[q], List.getElem?_eq_getElem hlt⟩
        obtain ⟨b, f, rfl, hbl, hcs, ho, hok⟩ := HS.out q x hx
        have hxc := HCP.out x (List.mem_of_getElem? hx)
        have hcell : ∀ j v, x.cells[j]? = some v → wr.cell? ⟨b, f + q * 6 + j, none⟩ = some v := fun j v hv => by rw [HBq.out.cell (p := ⟨b, f + q * 6 + j, none⟩) hbl]; exact hcs j v hv
        have k0 : wr.cell? ⟨b, f + q * 6, none⟩ = some (.int .i64 x.k) := hcell 0 _ rfl
        have k1 := hcell 1 _ rfl
        have k2 := hcell 2 _ rfl
        have k3 := hcell 3 _ rfl
        have k4 := hcell 4 _ rfl
        have k5 := hcell 5 _ rfl
        have hbr : b < wr.heap.size := Nat.lt_of_lt_of_le hbl HBq.out.size
        have HBS : Hid (W.heap.size ≤ tb) := HTq.out.lo
        have HOP : Hid (OpsAt W W.heap.size x.a x.os) := ho
        have HOK : Hid (∀ o ∈ x.os, o.Ok) := hok
        have HXC : Hid (x.os.length ≤ x.c) := hxc
        clear hcell hcs hx ho hok hxc
        go_upto_region 8 with fail
        obtain ⟨w2, hw2⟩ : ∃ y, wr.alloc (.cells #[.int .i64 x.k, .int .i64 x.s, .int .i64 x.st, .slice x.a x.os.length x.c, .string x.pl, .int .i64 x.nn] 46) = y := ⟨_, rfl⟩
        obtain ⟨sb, hsb⟩ : ∃ y, wr.heap.size = y := ⟨_, rfl⟩
        have hb2 : Below wr.heap.size wr w2 := by rw [← hw2]; exact (Below.refl _ _).alloc (Nat.le_refl _) _
        have HB2 : Hid (Below W.heap.size W w2) := trans2 HBq.out hb2
        have HT2 : Hid (TrAt w2 W.heap.size tb q T) := HTq.out.below hb2
        have HS2 : Hid (w2.heap[sb]? = some (.cells #[.int .i64 x.k, .int .i64 x.s, .int .i64 x.st, .slice x.a x.os.length x.c, .string x.pl, .int .i64 x.nn] 46 (0, 0))) := by rw [← hw2, ← hsb]; exact heap_alloc_new _ _
        have HSB : Hid (sb ≠ tb) := fun e => by have := HTq.out.lt; omega
        rw [hw2, hsb]
        clear hw2 hsb hb2 k0 k1 k2 k3 k4 k5 hbr hbl
        obtain ⟨s0, s1, s2, s3, s4, s5⟩ := cells_6 HS2.out
        by_cases h2 : x.k = 2
        · rw [h2] at s0
          clear h2
          go_wp2_with fail
          refine Calls.mono (end_tr _ tb q T x.s w2 HT2.out (by omega)) ?_
          rintro e w3 ⟨chV, rfl, _, ht3, hc3⟩
          have HT3 : Hid (TrAt w3 W.heap.size tb (q + 1) (finT T x.s)) := ht3.mono (by omega)
          have HB3 : Hid (Below W.heap.size W w3) := HB2.out.trans (chg_lo hc3 HBS.out HB2.out.size)
          have HR3 : Hid (Rng (finT T x.s)) := rng_fin HRq.out _
          clear ht3 hc3
          go_wp2_with fail
          go_roundw
          case rel => exact ⟨q + 1, finT T x.s, by go_num, by omega, by omega, HT3.out, HR3.out, HB3.out⟩
          case measure => simp [intOf]; omega
        by_cases h1 : x.k = 1
        · rw [h1] at s0
          have HK1 : Hid (x.k = 1) := h1
          clear h2 h1
          go_wp2_with fail
          refine Calls.mono (nodes_tr _ _ _ _ _ HT2.out) ?_
          rintro e w3 ⟨g1, c1, rfl, hr3, hb3⟩
          have HT3 : Hid (TrAt w3 W.heap.size tb q T) := HT2.out.below hb3
          have HB3 : Hid (Below W.heap.size W w3) := trans2 HB2.out hb3
          have HR3 : Hid (w3.ownsRow w2.heap.size 54 7 (.slice (some ⟨g1, 0, none⟩) T.length c1) T.length (T.flatMap Nd.cs)) := hr3
          have HS3 : Hid _ := kept_block hb3 HS2.out
          clear hr3 hb3 s0 s1 s2 s3 s4 s5
          obtain ⟨s0, s1, s2, s3, s4, s5⟩ := cells_6 HS3.out
          go_wp2_with fail
          refine Calls.mono (play_step (x := x) HG.out HGC.out HB3.out HT3.out (by omega) HOP.out HOK.out) ?_
          rintro e w4 ⟨L, rv, chV, rfl, hL, hRs, hch, ht4, hc4⟩
          have HPS : Hid _ := play_says T x.s x.st x.os
          have HRN : Hid (Rng (playM T x.s x.st x.os).T) := rng_play HRq.out _ _ _
          have hLn : L.length = (playM T x.s x.st x.os).R.length := by have h9 := congrArg List.length hL; rw [List.length_map] at h9; exact h9
          obtain ⟨ra, rc, rfl⟩ := slice_of hRs.row
          obtain ⟨ca, cc, rfl⟩ := slice_of hch
          obtain ⟨M, hM⟩ : ∃ M, playM T x.s x.st x.os = M := ⟨_, rfl⟩
          rw [hM] at HPS HRN hLn ht4 ⊢
          rw [hLn]
          have HM : Hid (playM T x.s x.st x.os = M) := hM
          have HT4 : Hid (TrAt w4 W.heap.size tb (q + 1) M.T) := ht4
          have HB4 : Hid (Below W.heap.size W w4) := HB3.out.trans (chg_lo hc4 HBS.out HB3.out.size)
          have HR4 : Hid (w4.ownsRow w2.heap.size 54 7 (.slice (some ⟨g1, 0, none⟩) T.length c1) T.length (T.flatMap Nd.cs)) := row_keep HT3.out hc4 HR3.out (by decide)
          have HS4 : Hid (w4.heap[sb]? = some (.cells #[.int .i64 x.k, .int .i64 x.s, .int .i64 x.st, .slice x.a x.os.length x.c, .string x.pl, .int .i64 x.nn] 46 (0, 0))) := kept_chg hc4 HS3.out HSB.out
          clear hL hRs hch ht4 hc4 hLn hM s0 s1 s2 s3 s4 s5
          go_upto_region 13 with fail
          obtain ⟨w5, hw5⟩ : ∃ y, w4.alloc (.cells #[.int .i64 x.st, .int .i64 M.code, .int .i64 M.at', .slice ra M.R.length rc] 28) = y := ⟨_, rfl⟩
          obtain ⟨rb, hrb⟩ : ∃ y, w4.heap.size = y := ⟨_, rfl⟩
          have hb5 : Below w4.heap.size w4 w5 := by rw [← hw5]; exact (Below.refl _ _).alloc (Nat.le_refl _) _
          have HT5 : Hid (TrAt w5 W.heap.size tb (q + 1) M.T) := HT4.out.below hb5
          have HP5 : Hid (w5.heap[rb]? = some (.cells #[.int .i64 x.st, .int .i64 M.code, .int .i64 M.at', .slice ra M.R.length rc] 28 (0, 0))) := by rw [← hw5, ← hrb]; exact heap_alloc_new _ _
          have HB5 : Hid (Below w4.heap.size w4 w5) := hb5
          rw [hw5, hrb]
          clear hw5 hrb hb5
          go_wp2_with fail
          refine Calls.mono (nodes_tr _ _ _ _ _ HT5.out) ?_
          rintro e w6 ⟨g2, c2, rfl, hr6, hb6⟩
          have HT6 : Hid (TrAt w6 W.heap.size tb (q + 1) M.T) := HT5.out.below hb6
          have HB46 : Hid (Below w4.heap.size w4 w6) := trans2 HB5.out hb6
          have HB6 : Hid (Below W.heap.size W w6) := trans2 HB4.out HB46.out
          have HA6 : Hid (w6.ownsRow w5.heap.size 54 7 (.slice (some ⟨g2, 0, none⟩) M.T.length c2) M.T.length (M.T.flatMap Nd.cs)) := hr6
          have HR6 : Hid (w6.ownsRow w2.heap.size 54 7 (.slice (some ⟨g1, 0, none⟩) T.length c1) T.length (T.flatMap Nd.cs)) := owns_chg HR4.out (Chg.of_below HB46.out (fun _ => False)) (fun _ _ => id)
          have HS6 : Hid _ := kept_block HB46.out HS4.out
          have HP6 : Hid _ := kept_block hb6 HP5.out
          clear hr6 hb6
          obtain ⟨s0, s1, s2, s3, s4, s5⟩ := cells_6 HS6.out
          obtain ⟨p0, p1, p2, p3⟩ := cells_4 HP6.out
          rw [HK1.out] at s0
          rcases HPS.out with ⟨h1, h2, h3⟩ | ⟨h1, h2, h3, h4, h5⟩
          · rw [h1] at p1
            rw [h2] at p2
            rw [h3] at p3
            clear h1 h2 h3
            go_wp2_with (first | (go_at_call 12; refine Calls.mono (numT_any _ _) ?_; rintro e w' ⟨rfl, hw'⟩; have hw9 := hw'.symm; subst hw9; clear hw') | fail)
            go_roundw
            case rel => exact ⟨q + 1, M.T, by go_num, by omega, by omega, HT6.out, HRN.out, HB6.out⟩
            case measure => simp [intOf]; omega
          · have hT9 : M.T = T := h2
            have HA7 : Hid (w6.ownsRow w5.heap.size 54 7 (.slice (some ⟨g2, 0, none⟩) T.length c2) T.length (T.flatMap Nd.cs)) := by
              have h9 := HA6.out
              rw [hT9] at h9
              exact h9
            have HRF : Hid _ := refused_any w2.heap.size w5.heap.size g1 c1 g2 c2 T x M.at' M.code ra ca rc cc w6 (HG.out.below HB6.out) (HGC.out.below HB6.out) HT3.out.snd HRq.out HR6.out HA7.out (opsAt_mono (HOP.out.below HB6.out) HB6.out.size) HOK.out HXC.out h5
            rw [HK1.out] at HRF
            have e1 : (M.code == 0) = false := by simpa using h1
            have e2 : (M.code != 0) = true := by simpa using h1
            rw [h3] at p3
            rw [h4, hT9]
            clear h1 h2 h3 h4 h5
            go_wp2_with (first | (go_at_call 12; refine Calls.mono (numT_any _ _) ?_; rintro e w' ⟨rfl, hw'⟩; have hw9 := hw'.symm; subst hw9; clear hw') | fail)
            refine Calls.mono HRF.out ?_
            rintro e w7 ⟨rfl, hb7⟩
            have HT7 : Hid (TrAt w7 W.heap.size tb (q + 1) M.T) := HT6.out.below hb7
            have HB7 : Hid (Below W.heap.size W w7) := trans2 HB6.out hb7
            clear hb7
            go_wp2_with fail
            go_roundw
            case rel => exact ⟨q + 1, M.T, by go_num, by omega, by omega, HT7.out, HRN.out, HB7.out⟩
            case measure => simp [intOf]; omega
        · have e1 : (x.k != 1) = true := by simpa using h1
          have e2 : (x.k == 2) = false := by simpa using h2
          have HT3 : Hid (TrAt w2 W.heap.size tb (q + 1) T) := HT2.out.mono (by omega)
          clear h1 h2
          go_wp2_with fail
          go_roundw
          case rel => exact ⟨q + 1, T, by go_num, by omega, by omega, HT3.out, HRq.out, HB2.out⟩
          case measure => simp [intOf]; omega
      · have h40' : ¬ (q : Int) < 40 := by omega
        go_wp2_with fail
        refine (knownT_any wr (HG.out.below HBq.out)).mono ?_
        rintro e w9 ⟨rfl, hb9⟩
        have HB9 : Hid (Below W.heap.size W w9) := trans2 HBq.out hb9
        clear hb9
        go_wp2_with fail
        go_ret
        exact ⟨rfl, HB9.out⟩
    · have hlt' : ¬ (q : Int) < (l.length : Int) := by omega
      go_wp2_with fail
      refine (knownT_any wr (HG.out.below HBq.out)).mono ?_
      rintro e w9 ⟨rfl, hb9⟩
      have HB9 : Hid (Below W.heap.size W w9) := trans2 HBq.out hb9
      clear hb9
      go_wp2_with fail
      go_ret
      exact ⟨rfl, HB9.out⟩
end Go.Proofs.YtliafokjdngejaaGreatDoor
