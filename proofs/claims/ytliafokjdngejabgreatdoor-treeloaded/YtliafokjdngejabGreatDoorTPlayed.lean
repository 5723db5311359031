/-
  tree: a tree behind a script.
-/
import Derived.Test.YtliafokjdngejabGreatDoorTSit
import Derived.Deep.RegionHeld3
namespace Go.Proofs.YtliafokjdngejabGreatDoor
open Go.RowKit Go.Maps Go.WideShapes
set_option linter.unusedVariables false
set_option linter.unusedSimpArgs false
attribute [local go_sem ↓] Go.wp_at_zero Go.wp_at_succ

/-- A step that lies below is played at any later time. -/
theorem play_step {W w' : World} {tb q : Nat} {T : List Nd} {x : StT} (hg : GroundT W) (hgc : GroundC W) (hb : Below W.heap.size W w') (h : TrAt w' W.heap.size tb q T) (hq : q ≤ 900) (ho : OpsAt W W.heap.size x.a x.os) (hok : ∀ o ∈ x.os, o.Ok) :
    Calls Tryz.prog 16 #[.pointer (some ⟨tb, 0, none⟩), .int .i64 x.s, .int .i64 x.st, .slice x.a x.os.length x.c] w' fun e w'' => ∃ L rv chV, e = .returned (.tuple #[.agg #[.int .i64 x.st, .int .i64 (playM T x.s x.st x.os).code, .int .i64 (playM T x.s x.st x.os).at', rv], chV]) ∧ L.map RsT.r = (playM T x.s x.st x.os).R ∧ RsAt w'' w'.heap.size rv L.length L ∧ w''.ownsRow w'.heap.size 82 4 chV (playM T x.s x.st x.os).C.length (chCs (playM T x.s x.st x.os).C) ∧ TrAt w'' W.heap.size tb (q + 1) (playM T x.s x.st x.os).T ∧ Chg w' w'' (fun k => k = tb) :=
  play_tr _ tb q T x.s x.st x.a x.c x.os w' (hg.below hb) (hgc.below hb) h hq (opsAt_mono (ho.below hb) hb.size) hok

set_option maxHeartbeats 6400000 in
set_option maxRecDepth 100000 in
theorem played_any (W : World) (a : Option Addr) (c : Nat) (l : List StT) (hl : l.length ≤ maxLen) (hs : Steps W a l) (hg : GroundT W) (hgc : GroundC W) :
    Calls Tryz.prog 5 #[.slice a l.length c] W fun e w' => ∃ tb, e = .returned (.pointer (some ⟨tb, 0, none⟩)) ∧ TrAt w' W.heap.size tb 120 (runL [rootN] (l.take 120)) ∧ Below W.heap.size W w' := by
  unfold maxLen at hl
  have HS : Hid (Steps W a l) := hs
  have HG : Hid (GroundT W) := hg
  have HGC : Hid (GroundC W) := hgc
  have HNW : Hid _ := new_tr W
  clear hs hg hgc
  go_enter Tryz.func5, Tryz.ntmps5
  go_wp2_with (first
    | (go_at_call 14; refine Calls.mono HNW.out ?_; rintro e w1 ⟨tb, rfl, ht1, hb1⟩
       have HT1 : Hid (TrAt w1 W.heap.size tb 0 [rootN]) := ht1
       have HB1 : Hid (Below W.heap.size W w1) := hb1
       clear ht1 hb1)
    | fail)
  go_loopw [4] (fun i wr => ∃ q : Nat, i = .int .i64 q ∧ q ≤ l.length ∧ q ≤ 120 ∧ Hid (TrAt wr W.heap.size tb q (runL [rootN] (l.take q))) ∧ Hid (Below W.heap.size W wr)) (fun i _ => l.length - (intOf i).toNat)
  case atStart => exact ⟨0, rfl, Nat.zero_le _, Nat.zero_le _, HT1.out, HB1.out⟩
  case round =>
    obtain ⟨q, rfl, hq, hq2, HTq, HBq⟩ := hrel
    by_cases hlt : q < l.length
    · have hlt' : (q : Int) < (l.length : Int) := by omega
      by_cases h120 : q < 120
      · have h120' : (q : Int) < 120 := by omega
        obtain ⟨x, hx⟩ : ∃ x, l[q]? = some x := ⟨l[q], List.getElem?_eq_getElem hlt⟩
        obtain ⟨b, f, rfl, hbl, hcs, ho, hok⟩ := HS.out q x hx
        have HCE : Hid (∀ w', Below W.heap.size W w' → ∀ j v, x.cells[j]? = some v → w'.cell? ⟨b, f + q * 6 + j, none⟩ = some v) := fun w' hb j v hv => by rw [hb.cell (p := ⟨b, f + q * 6 + j, none⟩) hbl]; exact hcs j v hv
        have hcell := HCE.out wr HBq.out
        have k0 : wr.cell? ⟨b, f + q * 6, none⟩ = some (.int .i64 x.k) := hcell 0 _ rfl
        have k1 := hcell 1 _ rfl
        have k2 := hcell 2 _ rfl
        have k3 := hcell 3 _ rfl
        have HTK : Hid (runL [rootN] (l.take (q + 1)) = runS (runL [rootN] (l.take q)) x) := by
          show _ = _
          rw [List.take_add_one, hx]
          exact runL_snoc _ _ _
        have HBS : Hid (W.heap.size ≤ tb) := HTq.out.lo
        obtain ⟨T, hT⟩ : ∃ T, runL [rootN] (l.take q) = T := ⟨_, rfl⟩
        rw [hT] at HTq HTK
        clear hT hcell hcs hx
        by_cases h1 : x.k = 1
        · have HPL : Hid (∀ w', Below W.heap.size W w' → TrAt w' W.heap.size tb q T → _) := fun w' hb ht => play_step (x := x) HG.out HGC.out hb ht (by omega) ho hok
          clear ho hok
          have HE : Hid (runS T x = (playM T x.s x.st x.os).T) := by show _ = _; unfold runS; rw [if_pos h1]
          rw [h1] at k0
          clear h1
          go_upto_region 7 with fail
          go_region_held3 (fun w' => w'.cell? ⟨b, f + q * 6 + 1, none⟩ = some (.int .i64 x.s) ∧ w'.cell? ⟨b, f + q * 6 + 2, none⟩ = some (.int .i64 x.st) ∧ w'.cell? ⟨b, f + q * 6 + 3, none⟩ = some (.slice x.a x.os.length x.c)) (first | go_keep | exact ⟨k1, k2, k3⟩)
            (first
              | (go_at_call 16; refine Calls.mono (HPL.out _ (below_drew HBq.out) (HTq.out.below (below_drew0 _))) ?_
                 rintro e w3 ⟨L, rv, chV, rfl, _, _, _, ht3, hc3⟩
                 have HT3 : Hid (TrAt w3 W.heap.size tb (q + 1) (runL [rootN] (l.take (q + 1)))) := by rw [HTK.out, HE.out]; exact ht3
                 have HB3 : Hid (Below W.heap.size W w3) := HBq.out.trans (chg_lo (chg_undrew hc3) HBS.out HBq.out.size)
                 clear ht3 hc3 k0 k1 k2 k3
                 have k1 := HCE.out w3 HB3.out 1 _ rfl
                 have k2 := HCE.out w3 HB3.out 2 _ rfl
                 have k3 := HCE.out w3 HB3.out 3 _ rfl)
              | fail)
          all_goals (
            go_wp2_with fail
            go_roundw
            case rel => exact ⟨q + 1, by go_num, by omega, by omega, HT3.out, HB3.out⟩
            case measure => simp [intOf]; omega)
        · by_cases h2 : x.k = 2
          · have HEN : Hid (∀ w', TrAt w' W.heap.size tb q T → _) := fun w' ht => end_tr _ tb q T x.s w' ht (by omega)
            clear ho hok
            have HE : Hid (runS T x = finT T x.s) := by show _ = _; unfold runS; rw [if_neg h1, if_pos h2]
            rw [h2] at k0
            clear h1 h2
            go_wp2_with fail
            refine Calls.mono (HEN.out _ (by first | exact HTq.out | exact HTq.out.below (below_drew0 _))) ?_
            rintro e w3 ⟨chV, rfl, _, ht3, hc3⟩
            have HT3 : Hid (TrAt w3 W.heap.size tb (q + 1) (runL [rootN] (l.take (q + 1)))) := by rw [HTK.out, HE.out]; exact ht3.mono (by omega)
            have HB3 : Hid (Below W.heap.size W w3) := HBq.out.trans (by first | exact chg_lo hc3 HBS.out HBq.out.size | exact chg_lo (chg_undrew hc3) HBS.out HBq.out.size)
            clear ht3 hc3
            go_wp2_with fail
            go_roundw
            case rel => exact ⟨q + 1, by go_num, by omega, by omega, HT3.out, HB3.out⟩
            case measure => simp [intOf]; omega
          · have HE : Hid (runS T x = T) := by show _ = _; unfold runS; rw [if_neg h1, if_neg h2]
            have e1 : (x.k == 1) = false := by simpa using h1
            have e2 : (x.k == 2) = false := by simpa using h2
            have HT3 : Hid (TrAt wr W.heap.size tb (q + 1) (runL [rootN] (l.take (q + 1)))) := by rw [HTK.out, HE.out]; exact HTq.out.mono (by omega)
            clear ho hok
            go_wp2_with fail
            go_roundw
            case rel => exact ⟨q + 1, by go_num, by omega, by omega, HT3.out, HBq.out⟩
            case measure => simp [intOf]; omega
      · have h120' : ¬ (q : Int) < 120 := by omega
        have HT3 : Hid (TrAt wr W.heap.size tb 120 (runL [rootN] (l.take 120))) := by
          have e : q = 120 := by omega
          subst e
          exact HTq.out
        go_wp2_with fail
        go_ret
        exact ⟨tb, rfl, HT3.out, HBq.out⟩
    · have hlt' : ¬ (q : Int) < (l.length : Int) := by omega
      have HT3 : Hid (TrAt wr W.heap.size tb 120 (runL [rootN] (l.take 120))) := by
        have e : l.take q = l.take 120 := by rw [List.take_of_length_le (by omega), List.take_of_length_le (by omega)]
        have h9 := HTq.out
        rw [e] at h9
        exact h9.mono hq2
      go_wp2_with fail
      go_ret
      exact ⟨tb, rfl, HT3.out, HBq.out⟩
end Go.Proofs.YtliafokjdngejabGreatDoor
