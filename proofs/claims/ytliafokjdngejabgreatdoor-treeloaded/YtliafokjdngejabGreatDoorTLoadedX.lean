/-
  TreeLoaded: the walk (written by mkloaded.py).
-/
import Derived.Test.YtliafokjdngejabGreatDoorTLoadedW
namespace Go.Proofs.YtliafokjdngejabGreatDoor
open Go.RowKit Go.Maps Go.WideShapes
set_option linter.unusedVariables false
set_option linter.unusedSimpArgs false
attribute [local go_sem ↓] Go.wp_at_zero Go.wp_at_succ

theorem TrAt.base {w : World} {B B' tb q : Nat} {T : List Nd} (h : TrAt w B tb q T) (hB : B' ≤ B) : TrAt w B' tb q T := by
  obtain ⟨mb, n, D, h1, h2, h3⟩ := h.at'
  exact ⟨⟨mb, n, D, ⟨h1.box, h1.map, Nat.le_trans hB h1.lo, Nat.le_trans hB h1.lom⟩, h2, h3⟩, h.snd⟩
theorem UAt.below {w w' : World} {B tb q : Nat} {T : List Nd} {v : Value} (h : UAt w B tb q T v) (hb : Below w.heap.size w w') : UAt w' B tb q T v := by
  rcases h with h | ⟨ub, h1, h2, h3⟩
  · exact .inl h
  · exact .inr ⟨ub, h1, h2, h3.below hb⟩
theorem UAt.mono {w : World} {B tb q q' : Nat} {T : List Nd} {v : Value} (h : UAt w B tb q T v) (hq : q ≤ q') : UAt w B tb q' T v := by
  rcases h with h | ⟨ub, h1, h2, h3⟩
  · exact .inl h
  · exact .inr ⟨ub, h1, h2, h3.mono (by omega)⟩
theorem RsAt.tr {w w' : World} {B N : Nat} {rv : Value} {L : List RsT} (h : RsAt w B rv N L) {B' tb q : Nat} {T : List Nd} (ht : TrAt w B' tb q T) (hc : Chg w w' (fun k => k = tb)) : RsAt w' B rv N L :=
  ⟨row_keep ht hc h.row (by decide), h.le, fun x hx => row_keep ht hc (h.kids x hx) (by decide)⟩
set_option maxHeartbeats 16000000 in
set_option maxRecDepth 100000 in
theorem TreeLoaded_walk (W : World) (a : Option Addr) (c : Nat) (l : List StT) (cut : Int) (hl : l.length ≤ maxLen) (hs : Steps W a l) (hg : GroundT W) (hgc : GroundC W) :
    Calls Tryz.prog 4 #[.slice a l.length c, .int .i64 cut] W fun e w' => e = .returned (.bool true) ∧ Below W.heap.size W w' := by
  unfold maxLen at hl
  have HS : Hid (Steps W a l) := hs
  have HG : Hid (GroundT W) := hg
  have HGC : Hid (GroundC W) := hgc
  have HNW : Hid _ := new_tr W
  clear hs hg hgc
  go_enter Tryz.func4, Tryz.ntmps4
  go_wp2_with (first
    | (go_at_call 14; refine Calls.mono HNW.out ?_; rintro e w1 ⟨tb, rfl, ht1, hb1⟩
       have HT1 : Hid (TrAt w1 W.heap.size tb 0 [rootN]) := ht1
       have HB1 : Hid (Below W.heap.size W w1) := hb1
       clear ht1 hb1)
    | fail)
  go_loopw [6, 7] (fun uv i wr => ∃ (q : Nat) (T : List Nd), i = .int .i64 q ∧ q ≤ l.length ∧ q ≤ 120 ∧ Hid (TrAt wr W.heap.size tb q T) ∧ Hid (Rng T) ∧ Hid (UAt wr W.heap.size tb q T uv) ∧ Hid (Below W.heap.size W wr)) (fun _ i _ => l.length - (intOf i).toNat)
  case atStart => exact ⟨0, [rootN], rfl, Nat.zero_le _, Nat.zero_le _, HT1.out, rng_new, .inl rfl, HB1.out⟩
  case round =>
    obtain ⟨q, T, rfl, hq, hq2, HTq, HRq, HUq, HBq⟩ := hrel
    by_cases hlt : q < l.length
    · have hlt' : (q : Int) < (l.length : Int) := by omega
      by_cases h120 : q < 120
      · have h120' : (q : Int) < 120 := by omega
        obtain ⟨x, hx⟩ : ∃ x, l[q]? = some x := ⟨l[q], List.getElem?_eq_getElem hlt⟩
        obtain ⟨b, f, rfl, hbl, hcs, ho, hok⟩ := HS.out q x hx
        have HCE : Hid (∀ w', Below W.heap.size W w' → ∀ j v, x.cells[j]? = some v → w'.cell? ⟨b, f + q * 6 + j, none⟩ = some v) := fun w' hb j v hv => by rw [hb.cell (p := ⟨b, f + q * 6 + j, none⟩) hbl]; exact hcs j v hv
        have HBS : Hid (W.heap.size ≤ tb) := HTq.out.lo
        have HOP : Hid (OpsAt W W.heap.size x.a x.os) := ho
        have HOK : Hid (∀ o ∈ x.os, o.Ok) := hok
        have HBL : Hid (b < W.heap.size) := hbl
        clear hcs hx ho hok hbl
        go_upto_if 34 with fail
        go_cut [6, 8, 9] from 34 to 48 (fun uv _ _ wc => Hid (TrAt wc W.heap.size tb q T) ∧ Hid (UAt wc W.heap.size tb q T uv) ∧ Hid (Below W.heap.size W wc))
        case first =>
          by_cases hcut : (q : Int) = cut
          · have e1 : ((q : Int) == cut) = true := by simpa using hcut
            clear hcut
            go_wp2_with fail
            refine Calls.mono (nodes_tr _ _ _ _ _ HTq.out) ?_
            rintro e w2 ⟨g1, c1, rfl, hr2, hb2⟩
            have HB2 : Hid (Below W.heap.size W w2) := trans2 HBq.out hb2
            have HT2 : Hid (TrAt w2 W.heap.size tb q T) := HTq.out.below hb2
            have HLD : Hid _ := load_any wr.heap.size g1 c1 T w2 HTq.out.snd HRq.out hr2 (HG.out.below HB2.out)
            clear hr2 hb2
            go_wp2_with fail
            refine Calls.mono HLD.out ?_
            rintro e w3 ⟨ub, rfl, hu3, hb3⟩
            have HB3 : Hid (Below W.heap.size W w3) := trans2 HB2.out hb3
            have HT3 : Hid (TrAt w3 W.heap.size tb q T) := HT2.out.below hb3
            have HU3 : Hid (UAt w3 W.heap.size tb q T (.pointer (some ⟨ub, 0, none⟩))) := .inr ⟨ub, rfl, fun e => by have := hu3.lo; have := HT2.out.lt; omega, (hu3.base HB2.out.size).mono (by omega)⟩
            clear hu3 hb3
            go_wp2_with (first | (go_at_call 11; refine Calls.mono (numT_any _ _) ?_; rintro e w' ⟨rfl, hw'⟩; have hw9 := hw'.symm; subst hw9; clear hw') | fail)
            go_meet
            case rel => exact ⟨HT3.out, HU3.out, HB3.out⟩
          · have e1 : ((q : Int) == cut) = false := by simpa using hcut
            clear hcut
            go_wp2_with fail
            go_meet
            case rel => exact ⟨HTq.out, HUq.out, HBq.out⟩
        case rest =>
          clear HTq HUq HBq
          obtain ⟨HTq, HUq, HBq⟩ := hcut
          have hcell := HCE.out wc HBq.out
          have k0 : wc.cell? ⟨b, f + q * 6, none⟩ = some (.int .i64 x.k) := hcell 0 _ rfl
          have k1 := hcell 1 _ rfl
          have k2 := hcell 2 _ rfl
          have k3 := hcell 3 _ rfl
          have k4 := hcell 4 _ rfl
          have k5 := hcell 5 _ rfl
          have hbr : b < wc.heap.size := Nat.lt_of_lt_of_le HBL.out HBq.out.size
          clear hcell
          go_upto_region 14 with fail
          obtain ⟨w2, hw2⟩ : ∃ y, wc.alloc (.cells #[.int .i64 x.k, .int .i64 x.s, .int .i64 x.st, .slice x.a x.os.length x.c, .string x.pl, .int .i64 x.nn] 50) = y := ⟨_, rfl⟩
          obtain ⟨sb, hsb⟩ : ∃ y, wc.heap.size = y := ⟨_, rfl⟩
          have hb2 : Below wc.heap.size wc w2 := by rw [← hw2]; exact (Below.refl _ _).alloc (Nat.le_refl _) _
          have HB2 : Hid (Below W.heap.size W w2) := trans2 HBq.out hb2
          have HT2 : Hid (TrAt w2 W.heap.size tb q T) := HTq.out.below hb2
          have HU2 : Hid (UAt w2 W.heap.size tb q T u6) := HUq.out.below hb2
          have HS2 : Hid (w2.heap[sb]? = some (.cells #[.int .i64 x.k, .int .i64 x.s, .int .i64 x.st, .slice x.a x.os.length x.c, .string x.pl, .int .i64 x.nn] 50 (0, 0))) := by rw [← hw2, ← hsb]; exact heap_alloc_new _ _
          have HSB : Hid (∀ t B' q' T', TrAt wc B' t q' T' → sb ≠ t) := fun t B' q' T' h e => by have := h.lt; omega
          rw [hw2, hsb]
          clear hw2 hsb hb2 k0 k1 k2 k3 k4 k5 hbr
          obtain ⟨s0, s1, s2, s3, s4, s5⟩ := cells_6 HS2.out
          by_cases h1 : x.k = 1
          · rw [h1] at s0
            have HK1 : Hid (x.k = 1) := h1
            clear h1
            go_wp2_with fail
            refine Calls.mono (play_step (x := x) HG.out HGC.out HB2.out HT2.out (by omega) HOP.out HOK.out) ?_
            rintro e w3 ⟨L, rv, chV, rfl, hL, hRs, hch, ht3, hc3⟩
            have hRN : Rng (playM T x.s x.st x.os).T := rng_play HRq.out _ _ _
            have hKD := playM_kids HTq.out.snd.inv x.s x.st x.os
            have hLN := play_lens T x.s x.st x.os
            obtain ⟨ra, rc, rfl⟩ := slice_of hRs.row
            obtain ⟨ca, cc, rfl⟩ := slice_of hch
            obtain ⟨M, hM⟩ : ∃ M, playM T x.s x.st x.os = M := ⟨_, rfl⟩
            rw [hM] at hRN hKD hLN ht3 hL hch ⊢
            have HM : Hid (playM T x.s x.st x.os = M) := hM
            have HRN : Hid (Rng M.T) := hRN
            have HKD : Hid (∀ r ∈ M.R, r.kids.length ≤ 64) := hKD
            have HLN : Hid (M.R.length ≤ 4 ∧ M.C.length ≤ 4) := hLN
            have HL : Hid (L.map RsT.r = M.R) := hL
            have HT3 : Hid (TrAt w3 W.heap.size tb (q + 1) M.T) := ht3
            have HB3 : Hid (Below W.heap.size W w3) := HB2.out.trans (chg_lo hc3 HBS.out HB2.out.size)
            have HS3 : Hid (w3.heap[sb]? = some (.cells #[.int .i64 x.k, .int .i64 x.s, .int .i64 x.st, .slice x.a x.os.length x.c, .string x.pl, .int .i64 x.nn] 50 (0, 0))) := kept_chg hc3 HS2.out (HSB.out tb _ _ _ HTq.out)
            have HA3 : Hid (RsAt w3 w2.heap.size (.slice ra L.length rc) L.length L) := hRs
            have HC3 : Hid (w3.ownsRow w2.heap.size 82 4 (.slice ca M.C.length cc) M.C.length (chCs M.C)) := hch
            rcases HU2.out with rfl | ⟨ub, rfl, hne, hu2⟩
            · have HU3 : Hid (UAt w3 W.heap.size tb (q + 1) M.T (.pointer none)) := .inl rfl
              clear hL hRs hch ht3 hc3 hRN hKD hLN hM s0 s1 s2 s3 s4 s5
              go_wp2_with fail
              go_roundw
              case rel => exact ⟨q + 1, M.T, by go_num, by omega, by omega, HT3.out.below ((Below.refl _ _).alloc (Nat.le_refl _) _), HRN.out, .inl rfl, HB3.out.alloc HB3.out.size _⟩
              case measure => simp [intOf]; omega
            · have HNE : Hid (ub ≠ tb) := hne
              have HU3 : Hid (TrAt w3 W.heap.size ub (q + 8) T) := hu2.other HT2.out hne hc3
              clear hL hRs hch ht3 hc3 hRN hKD hLN hM s0 s1 s2 s3 s4 s5 hu2 hne
              go_upto_region 17 with fail
              obtain ⟨w4, hw4⟩ : ∃ y, w3.alloc (.cells #[.int .i64 x.st, .int .i64 M.code, .int .i64 M.at', .slice ra L.length rc] 53) = y := ⟨_, rfl⟩
              obtain ⟨rb, hrb⟩ : ∃ y, w3.heap.size = y := ⟨_, rfl⟩
              have hb4 : Below w3.heap.size w3 w4 := by rw [← hw4]; exact (Below.refl _ _).alloc (Nat.le_refl _) _
              have HB4 : Hid (Below W.heap.size W w4) := trans2 HB3.out hb4
              have HT4 : Hid (TrAt w4 W.heap.size tb (q + 1) M.T) := HT3.out.below hb4
              have HU4 : Hid (TrAt w4 W.heap.size ub (q + 8) T) := HU3.out.below hb4
              have HS4 : Hid _ := kept_block hb4 HS3.out
              have HP4 : Hid (w4.heap[rb]? = some (.cells #[.int .i64 x.st, .int .i64 M.code, .int .i64 M.at', .slice ra L.length rc] 53 (0, 0))) := by rw [← hw4, ← hrb]; exact heap_alloc_new _ _
              have HA4 : Hid (RsAt w4 w2.heap.size (.slice ra L.length rc) L.length L) := HA3.out.below hb4
              have HC4 : Hid (w4.ownsRow w2.heap.size 82 4 (.slice ca M.C.length cc) M.C.length (chCs M.C)) := owns_chg HC3.out (Chg.of_below hb4 (fun _ => False)) (fun _ _ => id)
              have HRB : Hid (rb ≠ ub) := fun e => by have := HU3.out.lt; omega
              have HSU : Hid (sb ≠ ub) := fun e => by
                obtain ⟨v, hv⟩ := HU4.out.box
                have h9 := HS4.out
                rw [e, hv] at h9
                simp at h9
              rw [hw4, hrb]
              clear hw4 hrb hb4
              obtain ⟨s0, s1, s2, s3, s4, s5⟩ := cells_6 HS4.out
              go_wp2_with fail
              refine Calls.mono (play_step (x := x) HG.out HGC.out HB4.out HU4.out (by omega) HOP.out HOK.out) ?_
              rintro e w5 ⟨L2, rv2, chV2, rfl, hL2, hRs2, hch2, hu5, hc5⟩
              obtain ⟨ra2, rc2, rfl⟩ := slice_of hRs2.row
              obtain ⟨ca2, cc2, rfl⟩ := slice_of hch2
              rw [HM.out] at hL2 hch2 hu5 ⊢
              have HT5 : Hid (TrAt w5 W.heap.size tb (q + 1) M.T) := HT4.out.other HU4.out (fun e => HNE.out e.symm) hc5
              have HU5 : Hid (UAt w5 W.heap.size tb (q + 1) M.T (.pointer (some ⟨ub, 0, none⟩))) := .inr ⟨ub, rfl, HNE.out, hu5.mono (by omega)⟩
              have HB5 : Hid (Below W.heap.size W w5) := HB4.out.trans (chg_lo hc5 HU4.out.lo HB4.out.size)
              have HP5 : Hid (w5.heap[rb]? = some (.cells #[.int .i64 x.st, .int .i64 M.code, .int .i64 M.at', .slice ra L.length rc] 53 (0, 0))) := kept_chg hc5 HP4.out HRB.out
              have HA5 : Hid (RsAt w5 w2.heap.size (.slice ra L.length rc) L.length L) := HA4.out.tr HU4.out hc5
              have HC5 : Hid (w5.ownsRow w2.heap.size 82 4 (.slice ca M.C.length cc) M.C.length (chCs M.C)) := row_keep HU4.out hc5 HC4.out (by decide)
              have HA52 : Hid (RsAt w5 w4.heap.size (.slice ra2 L2.length rc2) L2.length L2) := hRs2
              have HC52 : Hid (w5.ownsRow w4.heap.size 82 4 (.slice ca2 M.C.length cc2) M.C.length (chCs M.C)) := hch2
              have HL2 : Hid (L.map RsT.r = L2.map RsT.r) := by show _ = _; rw [HL.out]; exact hL2.symm
              have hLl : L.length ≤ 4 := by have h9 := congrArg List.length HL.out; rw [List.length_map] at h9; rw [h9]; exact HLN.out.1
              have HKL : Hid (∀ y ∈ L, y.r.kids.length ≤ 1000) := fun y hy => Nat.le_trans (HKD.out y.r (by rw [← HL.out]; exact List.mem_map_of_mem hy)) (by decide)
              have HRP : Hid (∀ W', Below w5.heap.size w5 W' → _) := fun W' hb => replyT_any w2.heap.size w4.heap.size x.st M.code M.at' (.slice ra L.length rc) (.slice ra2 L2.length rc2) L L2 W' (HA5.out.below hb) (HA52.out.below hb) HL2.out (by omega) HKL.out
              have HCH : Hid (∀ W', Below w5.heap.size w5 W' → _) := fun W' hb => changesT_any w2.heap.size w4.heap.size (.slice ca M.C.length cc) (.slice ca2 M.C.length cc2) M.C W' (owns_chg HC5.out (Chg.of_below hb (fun _ => False)) (fun _ _ => id)) (owns_chg HC52.out (Chg.of_below hb (fun _ => False)) (fun _ _ => id)) (by have := HLN.out.2; omega)
              have hrl5 : rb < w5.heap.size := (Array.getElem?_eq_some_iff.1 HP5.out).1
              clear hL2 hRs2 hch2 hu5 hc5 hLl s0 s1 s2 s3 s4 s5
              go_upto_region 19 with fail
              obtain ⟨w6, hw6⟩ : ∃ y, w5.alloc (.cells #[.int .i64 x.st, .int .i64 M.code, .int .i64 M.at', .slice ra2 L2.length rc2] 53) = y := ⟨_, rfl⟩
              obtain ⟨rb2, hrb2⟩ : ∃ y, w5.heap.size = y := ⟨_, rfl⟩
              have HB56 : Hid (Below w5.heap.size w5 w6) := by rw [← hw6]; exact (Below.refl _ _).alloc (Nat.le_refl _) _
              have HP6 : Hid _ := kept_block HB56.out HP5.out
              have HQ6 : Hid (w6.heap[rb2]? = some (.cells #[.int .i64 x.st, .int .i64 M.code, .int .i64 M.at', .slice ra2 L2.length rc2] 53 (0, 0))) := by rw [← hw6, ← hrb2]; exact heap_alloc_new _ _
              rw [hw6, hrb2]
              clear hw6 hrb2
              obtain ⟨p0, p1, p2, p3⟩ := cells_4 HP6.out
              obtain ⟨q0, q1, q2, q3⟩ := cells_4 HQ6.out
              go_wp2_with fail
              refine Calls.mono (HRP.out w6 HB56.out) ?_
              rintro e w7 ⟨rfl, hb7⟩
              have HB57 : Hid (Below w5.heap.size w5 w7) := trans2 HB56.out hb7
              clear hb7 p0 p1 p2 p3 q0 q1 q2 q3
              go_wp2_with fail
              refine Calls.mono (HCH.out w7 HB57.out) ?_
              rintro e w8 ⟨rfl, hb8⟩
              have HB58 : Hid (Below w5.heap.size w5 w8) := trans2 HB57.out hb8
              clear hb8
              go_wp2_with fail
              go_roundw
              case rel => exact ⟨q + 1, M.T, by go_num, by omega, by omega, HT5.out.below HB58.out, HRN.out, HU5.out.below HB58.out, trans2 HB5.out HB58.out⟩
              case measure => simp [intOf]; omega
          by_cases h2 : x.k = 2
          · rw [h2] at s0
            clear h1 h2
            go_wp2_with fail
            refine Calls.mono (end_tr _ tb q T x.s w2 HT2.out (by omega)) ?_
            rintro e w3 ⟨chV, rfl, hch, ht3, hc3⟩
            obtain ⟨ca, cc, rfl⟩ := slice_of hch
            have HT3 : Hid (TrAt w3 W.heap.size tb (q + 1) (finT T x.s)) := ht3.mono (by omega)
            have HB3 : Hid (Below W.heap.size W w3) := HB2.out.trans (chg_lo hc3 HBS.out HB2.out.size)
            have HR3 : Hid (Rng (finT T x.s)) := rng_fin HRq.out _
            have HC3 : Hid (w3.ownsRow w2.heap.size 82 4 (.slice ca (finC T x.s).length cc) (finC T x.s).length (chCs (finC T x.s))) := hch
            have HS3 : Hid (w3.heap[sb]? = some (.cells #[.int .i64 x.k, .int .i64 x.s, .int .i64 x.st, .slice x.a x.os.length x.c, .string x.pl, .int .i64 x.nn] 50 (0, 0))) := kept_chg hc3 HS2.out (HSB.out tb _ _ _ HTq.out)
            have HCL : Hid ((finC T x.s).length ≤ 1000) := Nat.le_trans (finC_len _ _) (by have := HTq.out.snd.inv.len; omega)
            obtain ⟨C, hC⟩ : ∃ C, finC T x.s = C := ⟨_, rfl⟩
            rw [hC] at HC3 HCL ⊢
            have HFC : Hid (finC T x.s = C) := hC
            rcases HU2.out with rfl | ⟨ub, rfl, hne, hu2⟩
            · clear ht3 hc3 hch hC s0 s1 s2 s3 s4 s5
              go_wp2_with fail
              go_roundw
              case rel => exact ⟨q + 1, finT T x.s, by go_num, by omega, by omega, HT3.out, HR3.out, .inl rfl, HB3.out⟩
              case measure => simp [intOf]; omega
            · have HNE : Hid (ub ≠ tb) := hne
              have HU3 : Hid (TrAt w3 W.heap.size ub (q + 8) T) := hu2.other HT2.out hne hc3
              clear ht3 hc3 hch hC s0 s1 s2 s3 s4 s5 hu2 hne
              obtain ⟨s0, s1, s2, s3, s4, s5⟩ := cells_6 HS3.out
              go_wp2_with fail
              refine Calls.mono (end_tr _ ub (q + 8) T x.s w3 HU3.out (by omega)) ?_
              rintro e w4 ⟨chV2, rfl, hch2, hu4, hc4⟩
              obtain ⟨ca2, cc2, rfl⟩ := slice_of hch2
              rw [HFC.out] at hch2 ⊢
              have HT4 : Hid (TrAt w4 W.heap.size tb (q + 1) (finT T x.s)) := HT3.out.other HU3.out (fun e => HNE.out e.symm) hc4
              have HU4 : Hid (UAt w4 W.heap.size tb (q + 1) (finT T x.s) (.pointer (some ⟨ub, 0, none⟩))) := .inr ⟨ub, rfl, HNE.out, hu4.mono (by omega)⟩
              have HB4 : Hid (Below W.heap.size W w4) := HB3.out.trans (chg_lo hc4 HU3.out.lo HB3.out.size)
              have HCH : Hid _ := changesT_any w2.heap.size w3.heap.size (.slice ca C.length cc) (.slice ca2 C.length cc2) C w4 (row_keep HU3.out hc4 HC3.out (by decide)) hch2 HCL.out
              clear hch2 hu4 hc4 s0 s1 s2 s3 s4 s5
              go_wp2_with fail
              refine Calls.mono HCH.out ?_
              rintro e w5 ⟨rfl, hb5⟩
              have HB45 : Hid (Below w4.heap.size w4 w5) := hb5
              clear hb5
              go_wp2_with fail
              go_roundw
              case rel => exact ⟨q + 1, finT T x.s, by go_num, by omega, by omega, HT4.out.below HB45.out, HR3.out, HU4.out.below HB45.out, trans2 HB4.out HB45.out⟩
              case measure => simp [intOf]; omega
          · have e1 : (x.k == 1) = false := by simpa using h1
            have e2 : (x.k == 2) = false := by simpa using h2
            have HT3 : Hid (TrAt w2 W.heap.size tb (q + 1) T) := HT2.out.mono (by omega)
            have HU3 : Hid (UAt w2 W.heap.size tb (q + 1) T u6) := HU2.out.mono (by omega)
            clear h1 h2
            go_wp2_with fail
            go_roundw
            case rel => exact ⟨q + 1, T, by go_num, by omega, by omega, HT3.out, HRq.out, HU3.out, HB2.out⟩
            case measure => simp [intOf]; omega
      · have h120' : ¬ (q : Int) < 120 := by omega
        rcases HUq.out with rfl | ⟨ub, rfl, hne, hu⟩
        · go_wp2_with fail
          refine (knownT_any wr (HG.out.below HBq.out)).mono ?_
          rintro e w9 ⟨rfl, hb9⟩
          have HB9 : Hid (Below W.heap.size W w9) := trans2 HBq.out hb9
          clear hb9
          go_wp2_with fail
          go_ret
          exact ⟨rfl, HB9.out⟩
        · have HU : Hid (TrAt wr W.heap.size ub (q + 8) T) := hu
          clear hu hne
          go_wp2_with fail
          refine Calls.mono (nodes_tr _ _ _ _ _ HTq.out) ?_
          rintro e w2 ⟨g1, c1, rfl, hr2, hb2⟩
          have HB2 : Hid (Below W.heap.size W w2) := trans2 HBq.out hb2
          have HU2 : Hid (TrAt w2 W.heap.size ub (q + 8) T) := HU.out.below hb2
          have HR2 : Hid (w2.ownsRow wr.heap.size 32 7 (.slice (some ⟨g1, 0, none⟩) T.length c1) T.length (T.flatMap Nd.cs)) := hr2
          clear hr2 hb2
          go_wp2_with fail
          refine Calls.mono (nodes_tr _ _ _ _ _ HU2.out) ?_
          rintro e w3 ⟨g2, c2, rfl, hr3, hb3⟩
          have HB3 : Hid (Below W.heap.size W w3) := trans2 HB2.out hb3
          have HSM : Hid _ := sameT_any wr.heap.size w2.heap.size g1 c1 g2 c2 T w3 (owns_chg HR2.out (Chg.of_below hb3 (fun _ => False)) (fun _ _ => id)) hr3 (by have := HU.out.snd.inv.len; omega)
          clear hr3 hb3
          go_wp2_with fail
          refine Calls.mono HSM.out ?_
          rintro e w4 ⟨rfl, hb4⟩
          have HB4 : Hid (Below W.heap.size W w4) := trans2 HB3.out hb4
          clear hb4
          go_wp2_with fail
          refine (knownT_any w4 (HG.out.below HB4.out)).mono ?_
          rintro e w9 ⟨rfl, hb9⟩
          have HB9 : Hid (Below W.heap.size W w9) := trans2 HB4.out hb9
          clear hb9
          go_wp2_with fail
          go_ret
          exact ⟨rfl, HB9.out⟩
    · have hlt' : ¬ (q : Int) < (l.length : Int) := by omega
      rcases HUq.out with rfl | ⟨ub, rfl, hne, hu⟩
      · go_wp2_with fail
        refine (knownT_any wr (HG.out.below HBq.out)).mono ?_
        rintro e w9 ⟨rfl, hb9⟩
        have HB9 : Hid (Below W.heap.size W w9) := trans2 HBq.out hb9
        clear hb9
        go_wp2_with fail
        go_ret
        exact ⟨rfl, HB9.out⟩
      · have HU : Hid (TrAt wr W.heap.size ub (q + 8) T) := hu
        clear hu hne
        go_wp2_with fail
        refine Calls.mono (nodes_tr _ _ _ _ _ HTq.out) ?_
        rintro e w2 ⟨g1, c1, rfl, hr2, hb2⟩
        have HB2 : Hid (Below W.heap.size W w2) := trans2 HBq.out hb2
        have HU2 : Hid (TrAt w2 W.heap.size ub (q + 8) T) := HU.out.below hb2
        have HR2 : Hid (w2.ownsRow wr.heap.size 32 7 (.slice (some ⟨g1, 0, none⟩) T.length c1) T.length (T.flatMap Nd.cs)) := hr2
        clear hr2 hb2
        go_wp2_with fail
        refine Calls.mono (nodes_tr _ _ _ _ _ HU2.out) ?_
        rintro e w3 ⟨g2, c2, rfl, hr3, hb3⟩
        have HB3 : Hid (Below W.heap.size W w3) := trans2 HB2.out hb3
        have HSM : Hid _ := sameT_any wr.heap.size w2.heap.size g1 c1 g2 c2 T w3 (owns_chg HR2.out (Chg.of_below hb3 (fun _ => False)) (fun _ _ => id)) hr3 (by have := HU.out.snd.inv.len; omega)
        clear hr3 hb3
        go_wp2_with fail
        refine Calls.mono HSM.out ?_
        rintro e w4 ⟨rfl, hb4⟩
        have HB4 : Hid (Below W.heap.size W w4) := trans2 HB3.out hb4
        clear hb4
        go_wp2_with fail
        refine (knownT_any w4 (HG.out.below HB4.out)).mono ?_
        rintro e w9 ⟨rfl, hb9⟩
        have HB9 : Hid (Below W.heap.size W w9) := trans2 HB4.out hb9
        clear hb9
        go_wp2_with fail
        go_ret
        exact ⟨rfl, HB9.out⟩
end Go.Proofs.YtliafokjdngejabGreatDoor
