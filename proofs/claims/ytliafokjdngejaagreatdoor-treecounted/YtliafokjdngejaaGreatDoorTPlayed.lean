import Derived.Test.YtliafokjdngejaaGreatDoorTSnd
import Derived.Test.YtliafokjdngejaaGreatDoorTScript
import Derived.Deep.RegionHeld3
namespace Go.Proofs.YtliafokjdngejaaGreatDoor
open Go.RowKit Go.Maps Go.WideShapes
set_option linter.unusedVariables false
set_option linter.unusedSimpArgs false
attribute [local go_sem ↓] Go.wp_at_zero Go.wp_at_succ

theorem below_drew0 (w : World) : Below w.heap.size w w.drew := ⟨rfl, rfl, rfl, Nat.le_refl _, fun _ _ => rfl⟩
theorem chg_undrew {w w' : World} {S : Nat → Prop} (h : Chg w.drew w' S) : Chg w w' S := ⟨h.os, h.tape, h.output, h.size, h.block⟩
/-- At tb lies a tree with these nodes, behind so many requests. -/
structure TrAt (w : World) (B tb q : Nat) (T : List Nd) : Prop where
  at' : ∃ mb n D, TreeAt w B tb mb n D ∧ Rep D T ∧ n ≤ 1 + 8 * q
  snd : Snd T
theorem TrAt.below {w w' : World} {B tb q : Nat} {T : List Nd} (h : TrAt w B tb q T) (hb : Below w.heap.size w w') : TrAt w' B tb q T := by
  obtain ⟨mb, n, D, h1, h2, h3⟩ := h.at'
  exact ⟨⟨mb, n, D, h1.below hb, h2, h3⟩, h.snd⟩
theorem TrAt.lo {w : World} {B tb q : Nat} {T : List Nd} (h : TrAt w B tb q T) : B ≤ tb := by
  obtain ⟨mb, n, D, h1, _⟩ := h.at'
  exact h1.lo
theorem TrAt.lt {w : World} {B tb q : Nat} {T : List Nd} (h : TrAt w B tb q T) : tb < w.heap.size := by
  obtain ⟨mb, n, D, h1, _⟩ := h.at'
  exact (Array.getElem?_eq_some_iff.1 h1.box).1
theorem TrAt.box {w : World} {B tb q : Nat} {T : List Nd} (h : TrAt w B tb q T) : ∃ v, w.heap[tb]? = some (.cells #[v] 75 (0, 0)) := by
  obtain ⟨mb, n, D, h1, _⟩ := h.at'
  exact ⟨_, h1.box⟩
theorem TrAt.mono {w : World} {B tb q q' : Nat} {T : List Nd} (h : TrAt w B tb q T) (hq : q ≤ q') : TrAt w B tb q' T := by
  obtain ⟨mb, n, D, h1, h2, h3⟩ := h.at'
  exact ⟨⟨mb, n, D, h1, h2, by omega⟩, h.snd⟩
theorem chg_lo {w w' : World} {B tb : Nat} (h : Chg w w' (fun k => k = tb)) (hlo : B ≤ tb) (hB : B ≤ w.heap.size) : Below B w w' := h.below hB (fun k _ e => by rw [show k = tb from e]; exact hlo)
/-- What is no tree stays as a tree turns. -/
theorem row_keep {w w' : World} {B tb q : Nat} {T : List Nd} {B' t sz m : Nat} {v : Value} {xs : List Value} (h : TrAt w B tb q T) (hc : Chg w w' (fun k => k = tb)) (hr : w.ownsRow B' t sz v m xs) (ht : t ≠ 75) : w'.ownsRow B' t sz v m xs :=
  owns_chg hr hc (fun k hk e => by
    obtain ⟨v', hb⟩ := h.box
    obtain ⟨cur, hcur⟩ := owns_kind hr hk
    rw [show k = tb from e, hb] at hcur
    simp at hcur
    exact ht hcur.2.symm)
theorem rep_root : Rep rootD [rootN] := by
  have ht : Tidy rootD := by
    have h0 : Tidy (DataW.put (.map [] : DataW Value) (ky pRt) (.held rootN.V)) := Tidy.put (by simp [Tidy]) (ky_lit _) _
    exact h0
  refine ⟨ht, ⟨_, rfl, fun p hp => ?_⟩, fun s => ?_, fun x hx => ?_, by simp⟩
  · obtain rfl := List.mem_singleton.1 hp
    exact ⟨_, rfl⟩
  · constructor
    · intro h
      refine ⟨rootN, List.mem_singleton.2 rfl, ?_⟩
      by_cases e : pRt = s
      · exact e
      · exfalso
        have h1 : Maps.has (DataW.put (.map [] : DataW Value) (ky pRt) (.held rootN.V)) (ky s) = true := h
        rw [has_put_other (fun e' => e (ky_inj e').symm)] at h1
        simp [Maps.has] at h1
    · rintro ⟨x, hx, rfl⟩
      obtain rfl := List.mem_singleton.1 hx
      kernel_rfl
  · obtain rfl := List.mem_singleton.1 hx
    kernel_rfl
theorem new_tr (w : World) : Calls Tryz.prog 9 #[] w fun e w' => ∃ tb, e = .returned (.pointer (some ⟨tb, 0, none⟩)) ∧ TrAt w' w.heap.size tb 0 [rootN] ∧ Below w.heap.size w w' := by
  refine Calls.mono (new_any w) ?_
  rintro e w' ⟨tb, mb, rfl, hT, hb⟩
  exact ⟨tb, rfl, ⟨⟨mb, 1, rootD, hT, rep_root, by omega⟩, Snd.new⟩, hb⟩
theorem play_tr (B tb q : Nat) (T : List Nd) (s st : Int) (a : Option Addr) (c : Nat) (os : List OpT) (w : World) (hg : GroundT w) (hgc : GroundC w) (h : TrAt w B tb q T) (hq : q ≤ 900) (ho : OpsAt w w.heap.size a os) (hok : ∀ o ∈ os, o.Ok) :
    Calls Tryz.prog 10 #[.pointer (some ⟨tb, 0, none⟩), .int .i64 s, .int .i64 st, .slice a os.length c] w fun e w' => ∃ L rv chV, e = .returned (.tuple #[.agg #[.int .i64 st, .int .i64 (playM T s st os).code, .int .i64 (playM T s st os).at', rv], chV]) ∧ L.map RsT.r = (playM T s st os).R ∧ RsAt w' w.heap.size rv L.length L ∧ w'.ownsRow w.heap.size 56 4 chV (playM T s st os).C.length (chCs (playM T s st os).C) ∧ TrAt w' B tb (q + 1) (playM T s st os).T ∧ Chg w w' (fun k => k = tb) := by
  obtain ⟨mb, n, D, h1, h2, h3⟩ := h.at'
  refine Calls.mono (playT_any B tb mb n D T s st a c os w hg hgc h1 h2 h.snd.inv (by omega) ho hok) ?_
  rintro e w' ⟨L, rv, chV, rfl, hE⟩
  obtain ⟨mb', n', D', _, hn', hT', hr'⟩ := hE.tree
  exact ⟨L, rv, chV, rfl, hE.res, hE.row, hE.ch, ⟨⟨mb', n', D', hT', hr', by omega⟩, h.snd.play s st os⟩, hE.chg⟩
def finT (T : List Nd) (s : Int) : List Nd := if s < 1 then T else endT T s
def finC (T : List Nd) (s : Int) : List ChT := if s < 1 then [] else endC T s
theorem Snd.finT {T : List Nd} (h : Snd T) (s : Int) : Snd (finT T s) := by
  unfold Go.Proofs.YtliafokjdngejaaGreatDoor.finT
  split
  · exact h
  · exact h.fin (by omega)
set_option maxHeartbeats 3200000 in
theorem end_low {w : World} {tb mb : Nat} (h : w.cell? ⟨tb, 0, none⟩ = some (.map (some mb))) (s : Int) (hs : s < 1) :
    Calls Tryz.prog 15 #[.pointer (some ⟨tb, 0, none⟩), .int .i64 s] w fun e w' => e = .returned (.slice none 0 0) ∧ w' = w := by
  have HN : Hid _ := isNone_at tb (some mb) w h
  clear h
  go_enter Tryz.func15, Tryz.ntmps15
  go_wp2_with (first | (go_at_call 35; refine Calls.mono HN.out ?_; rintro e w1 ⟨rfl, rfl⟩) | fail)
  go_ret
  exact ⟨rfl, rfl⟩
theorem end_tr (B tb q : Nat) (T : List Nd) (s : Int) (w : World) (h : TrAt w B tb q T) (hq : q ≤ 900) :
    Calls Tryz.prog 15 #[.pointer (some ⟨tb, 0, none⟩), .int .i64 s] w fun e w' => ∃ chV, e = .returned chV ∧ w'.ownsRow w.heap.size 56 4 chV (finC T s).length (chCs (finC T s)) ∧ TrAt w' B tb q (finT T s) ∧ Chg w w' (fun k => k = tb) := by
  obtain ⟨mb, n, D, h1, h2, h3⟩ := h.at'
  unfold finT finC
  by_cases hs : s < 1
  · rw [if_pos hs, if_pos hs]
    refine Calls.mono (end_low (cells_1 h1.box) s hs) ?_
    rintro e w' ⟨rfl, rfl⟩
    exact ⟨_, rfl, World.ownsRow_nil _ _ _ _, h, Chg.refl _ _⟩
  · rw [if_neg hs, if_neg hs]
    refine Calls.mono (end_any B tb mb n D T s w h1 h2 h.snd.inv h.snd.ne (by omega) (by omega)) ?_
    rintro e w' ⟨chV, mb', D', rfl, _, hT', hr', hch, hc⟩
    exact ⟨chV, rfl, hch, ⟨⟨mb', n, D', hT', hr', h3⟩, h.snd.fin (by omega)⟩, hc⟩
theorem nodeCs_T {D : DataW Value} {T : List Nd} (h : Rep D T) : ∀ U : List Nd, (∀ x ∈ U, x ∈ T) → nodeCs D (U.map Nd.by) = U.flatMap Nd.cs
  | [], _ => rfl
  | x :: r, hU => by
    have e : (⟨(Nd.by x).toArray⟩ : ByteArray) = x.p := ByteArray.ext (by simp [Nd.by])
    have ih := nodeCs_T h r (fun y hy => hU y (List.mem_cons_of_mem _ hy))
    unfold nodeCs at ih ⊢
    rw [List.map_cons, List.map_cons, List.flatten_cons, ih, List.flatMap_cons, e, h.look x (hU x List.mem_cons_self)]
    rfl
theorem nodes_tr (B tb q : Nat) (T : List Nd) (w : World) (h : TrAt w B tb q T) :
    Calls Tryz.prog 16 #[.pointer (some ⟨tb, 0, none⟩)] w fun e w' => ∃ g cap, e = .returned (.slice (some ⟨g, 0, none⟩) T.length cap) ∧ w'.ownsRow w.heap.size 54 7 (.slice (some ⟨g, 0, none⟩) T.length cap) T.length (T.flatMap Nd.cs) ∧ Below w.heap.size w w' := by
  obtain ⟨mb, n, D, h1, h2, h3⟩ := h.at'
  have hne : strKeys D ≠ [] := fun e => by
    have h9 := h2.keys
    rw [e] at h9
    have h8 := h9.eq_nil
    simp at h8
    exact h.snd.ne h8
  refine Calls.mono (nodes_any B tb mb n D w h1 (by rw [h2.size]; have := h.snd.inv.len; omega) (h2.wf h.snd.inv.sml) hne) ?_
  rintro e w' ⟨g, cap, ts, rfl, hp, ha, hr, hb⟩
  obtain rfl := h.snd.inv.srt.only (hp.trans h2.keys.symm) ha
  rw [nodeCs_T h2 T (fun x hx => hx)] at hr
  rw [List.length_map] at hr ⊢
  exact ⟨g, cap, rfl, hr, hb⟩
/-- One step of a script, and many. -/
def runS (T : List Nd) (x : StT) : List Nd := if x.k = 1 then (playM T x.s x.st x.os).T else if x.k = 2 then finT T x.s else T
def runL (T : List Nd) (l : List StT) : List Nd := l.foldl runS T
theorem runL_snoc (T : List Nd) (l : List StT) (x : StT) : runL T (l ++ [x]) = runS (runL T l) x := by simp [runL]
end Go.Proofs.YtliafokjdngejaaGreatDoor
namespace Go.Proofs.YtliafokjdngejaaGreatDoor
open Go.RowKit Go.Maps Go.WideShapes
set_option linter.unusedVariables false
set_option linter.unusedSimpArgs false
attribute [local go_sem ↓] Go.wp_at_zero Go.wp_at_succ

/-- A step that lies below is played at any later time. -/
theorem play_step {W w' : World} {tb q : Nat} {T : List Nd} {x : StT} (hg : GroundT W) (hgc : GroundC W) (hb : Below W.heap.size W w') (h : TrAt w' W.heap.size tb q T) (hq : q ≤ 900) (ho : OpsAt W W.heap.size x.a x.os) (hok : ∀ o ∈ x.os, o.Ok) :
    Calls Tryz.prog 10 #[.pointer (some ⟨tb, 0, none⟩), .int .i64 x.s, .int .i64 x.st, .slice x.a x.os.length x.c] w' fun e w'' => ∃ L rv chV, e = .returned (.tuple #[.agg #[.int .i64 x.st, .int .i64 (playM T x.s x.st x.os).code, .int .i64 (playM T x.s x.st x.os).at', rv], chV]) ∧ L.map RsT.r = (playM T x.s x.st x.os).R ∧ RsAt w'' w'.heap.size rv L.length L ∧ w''.ownsRow w'.heap.size 56 4 chV (playM T x.s x.st x.os).C.length (chCs (playM T x.s x.st x.os).C) ∧ TrAt w'' W.heap.size tb (q + 1) (playM T x.s x.st x.os).T ∧ Chg w' w'' (fun k => k = tb) :=
  play_tr _ tb q T x.s x.st x.a x.c x.os w' (hg.below hb) (hgc.below hb) h hq (opsAt_mono (ho.below hb) hb.size) hok

set_option maxHeartbeats 6400000 in
set_option maxRecDepth 100000 in
theorem played_any (W : World) (a : Option Addr) (c : Nat) (l : List StT) (hl : l.length ≤ maxLen) (hs : Steps W a l) (hg : GroundT W) (hgc : GroundC W) :
    Calls Tryz.prog 18 #[.slice a l.length c] W fun e w' => ∃ tb, e = .returned (.pointer (some ⟨tb, 0, none⟩)) ∧ TrAt w' W.heap.size tb 120 (runL [rootN] (l.take 120)) ∧ Below W.heap.size W w' := by
  unfold maxLen at hl
  have HS : Hid (Steps W a l) := hs
  have HG : Hid (GroundT W) := hg
  have HGC : Hid (GroundC W) := hgc
  have HNW : Hid _ := new_tr W
  clear hs hg hgc
  go_enter Tryz.func18, Tryz.ntmps18
  go_wp2_with (first
    | (go_at_call 9; refine Calls.mono HNW.out ?_; rintro e w1 ⟨tb, rfl, ht1, hb1⟩
       have HT1 : Hid (TrAt w1 W.heap.size tb 0 [rootN]) := ht1
       have HB1 : Hid (Below W.heap.size W w1) := hb1
       clear ht1 hb1)
    | fail)
  go_loopw [4] (fun i wr => ∃ q : Nat, i = .int .i64 q ∧ q ≤ l.length ∧ q ≤ 120 ∧ Hid (TrAt wr W.heap.size tb q (runL [rootN] (l.take q))) ∧ Hid (Below W.heap.size W wr)) (fun i _ => l.length - (intOf i).toNat)
  case atStart => exact ⟨0, rfl, Nat.zero_le _, Nat.zero_le _, HT1.out, HB1.out⟩
  case round =>
    obtain ⟨q, rfl, hq, hq2, HTq, HBq⟩ := hrel
    by_cases hlt : q < l.length
    · have hlt' : (q : Int) < (l.length : Int) := by omega
      by_cases h120 : q < 120
      · have h120' : (q : Int) < 120 := by omega
        obtain ⟨x, hx⟩ : ∃ x, l[q]? = some x := ⟨l[q], List.getElem?_eq_getElem hlt⟩
        obtain ⟨b, f, rfl, hbl, hcs, ho, hok⟩ := HS.out q x hx
        have HCE : Hid (∀ w', Below W.heap.size W w' → ∀ j v, x.cells[j]? = some v → w'.cell? ⟨b, f + q * 6 + j, none⟩ = some v) := fun w' hb j v hv => by rw [hb.cell (p := ⟨b, f + q * 6 + j, none⟩) hbl]; exact hcs j v hv
        have hcell := HCE.out wr HBq.out
        have k0 : wr.cell? ⟨b, f + q * 6, none⟩ = some (.int .i64 x.k) := hcell 0 _ rfl
        have k1 := hcell 1 _ rfl
        have k2 := hcell 2 _ rfl
        have k3 := hcell 3 _ rfl
        have HTK : Hid (runL [rootN] (l.take (q + 1)) = runS (runL [rootN] (l.take q)) x) := by
          show _ = _
          rw [List.take_add_one, hx]
          exact runL_snoc _ _ _
        have HBS : Hid (W.heap.size ≤ tb) := HTq.out.lo
        obtain ⟨T, hT⟩ : ∃ T, runL [rootN] (l.take q) = T := ⟨_, rfl⟩
        rw [hT] at HTq HTK
        clear hT hcell hcs hx
        by_cases h1 : x.k = 1
        · have HPL : Hid (∀ w', Below W.heap.size W w' → TrAt w' W.heap.size tb q T → _) := fun w' hb ht => play_step (x := x) HG.out HGC.out hb ht (by omega) ho hok
          clear ho hok
          have HE : Hid (runS T x = (playM T x.s x.st x.os).T) := by show _ = _; unfold runS; rw [if_pos h1]
          rw [h1] at k0
          clear h1
          go_upto_region 7 with fail
          go_region_held3 (fun w' => w'.cell? ⟨b, f + q * 6 + 1, none⟩ = some (.int .i64 x.s) ∧ w'.cell? ⟨b, f + q * 6 + 2, none⟩ = some (.int .i64 x.st) ∧ w'.cell? ⟨b, f + q * 6 + 3, none⟩ = some (.slice x.a x.os.length x.c)) (first | go_keep | exact ⟨k1, k2, k3⟩)
            (first
              | (go_at_call 10; refine Calls.mono (HPL.out _ (below_drew HBq.out) (HTq.out.below (below_drew0 _))) ?_
                 rintro e w3 ⟨L, rv, chV, rfl, _, _, _, ht3, hc3⟩
                 have HT3 : Hid (TrAt w3 W.heap.size tb (q + 1) (runL [rootN] (l.take (q + 1)))) := by rw [HTK.out, HE.out]; exact ht3
                 have HB3 : Hid (Below W.heap.size W w3) := HBq.out.trans (chg_lo (chg_undrew hc3) HBS.out HBq.out.size)
                 clear ht3 hc3 k0 k1 k2 k3
                 have k1 := HCE.out w3 HB3.out 1 _ rfl
                 have k2 := HCE.out w3 HB3.out 2 _ rfl
                 have k3 := HCE.out w3 HB3.out 3 _ rfl)
              | fail)
          all_goals (
            go_wp2_with fail
            go_roundw
            case rel => exact ⟨q + 1, by go_num, by omega, by omega, HT3.out, HB3.out⟩
            case measure => simp [intOf]; omega)
        · by_cases h2 : x.k = 2
          · have HEN : Hid (∀ w', TrAt w' W.heap.size tb q T → _) := fun w' ht => end_tr _ tb q T x.s w' ht (by omega)
            clear ho hok
            have HE : Hid (runS T x = finT T x.s) := by show _ = _; unfold runS; rw [if_neg h1, if_pos h2]
            rw [h2] at k0
            clear h1 h2
            go_wp2_with fail
            refine Calls.mono (HEN.out _ (by first | exact HTq.out | exact HTq.out.below (below_drew0 _))) ?_
            rintro e w3 ⟨chV, rfl, _, ht3, hc3⟩
            have HT3 : Hid (TrAt w3 W.heap.size tb (q + 1) (runL [rootN] (l.take (q + 1)))) := by rw [HTK.out, HE.out]; exact ht3.mono (by omega)
            have HB3 : Hid (Below W.heap.size W w3) := HBq.out.trans (by first | exact chg_lo hc3 HBS.out HBq.out.size | exact chg_lo (chg_undrew hc3) HBS.out HBq.out.size)
            clear ht3 hc3
            go_wp2_with fail
            go_roundw
            case rel => exact ⟨q + 1, by go_num, by omega, by omega, HT3.out, HB3.out⟩
            case measure => simp [intOf]; omega
          · have HE : Hid (runS T x = T) := by show _ = _; unfold runS; rw [if_neg h1, if_neg h2]
            have e1 : (x.k == 1) = false := by simpa using h1
            have e2 : (x.k == 2) = false := by simpa using h2
            have HT3 : Hid (TrAt wr W.heap.size tb (q + 1) (runL [rootN] (l.take (q + 1)))) := by rw [HTK.out, HE.out]; exact HTq.out.mono (by omega)
            clear ho hok
            go_wp2_with fail
            go_roundw
            case rel => exact ⟨q + 1, by go_num, by omega, by omega, HT3.out, HBq.out⟩
            case measure => simp [intOf]; omega
      · have h120' : ¬ (q : Int) < 120 := by omega
        have HT3 : Hid (TrAt wr W.heap.size tb 120 (runL [rootN] (l.take 120))) := by
          have e : q = 120 := by omega
          subst e
          exact HTq.out
        go_wp2_with fail
        go_ret
        exact ⟨tb, rfl, HT3.out, HBq.out⟩
    · have hlt' : ¬ (q : Int) < (l.length : Int) := by omega
      have HT3 : Hid (TrAt wr W.heap.size tb 120 (runL [rootN] (l.take 120))) := by
        have e : l.take q = l.take 120 := by rw [List.take_of_length_le (by omega), List.take_of_length_le (by omega)]
        have h9 := HTq.out
        rw [e] at h9
        exact h9.mono hq2
      go_wp2_with fail
      go_ret
      exact ⟨tb, rfl, HT3.out, HBq.out⟩
end Go.Proofs.YtliafokjdngejaaGreatDoor
