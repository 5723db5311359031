/-
  TreeNothing: the walk.
-/
import Derived.Test.YtfjklpgnlkgfoaaGreatDoorTPlaysPlay
import Derived.Test.YtfjklpgnlkgfoaaGreatDoorTKnown
import Derived.Deep.CutRange
namespace Go.Proofs.YtfjklpgnlkgfoaaGreatDoor
open Go.RowKit Go.Maps
set_option linter.unusedVariables false
set_option linter.unusedSimpArgs false

/-- A step of a script. -/
structure StT where
  k : Int
  s : Int
  st : Int
  a : Option Addr
  c : Nat
  os : List OpT
  pl : ByteArray
  nn : Int
abbrev StT.cells (x : StT) : List Value := [.int .i64 x.k, .int .i64 x.s, .int .i64 x.st, .slice x.a x.os.length x.c, .string x.pl, .int .i64 x.nn]
/-- A script that came in. -/
def Steps (W : World) (a : Option Addr) (l : List StT) : Prop :=
  ∀ i x, l[i]? = some x → ∃ b f, a = some ⟨b, f, none⟩ ∧ b < W.heap.size ∧ (∀ j v, x.cells[j]? = some v → W.cell? ⟨b, f + i * 6 + j, none⟩ = some v) ∧ OpsAt W W.heap.size x.a x.os ∧ x.os.length ≤ 2513169434846
theorem opsAt_mono {w : World} {B B' : Nat} {a : Option Addr} {os : List OpT} (h : OpsAt w B a os) (hB : B ≤ B') : OpsAt w B' a os := fun i o hi => by
  obtain ⟨b, f, h1, h2, h3⟩ := h i o hi
  exact ⟨b, f, h1, Nat.lt_of_lt_of_le h2 hB, h3⟩

theorem plays_any (base db : Nat) (dv : Value) (w : World) (t : Value) (ht : NoTreeB w base t) (x : StT) (h5 : ¬ x.k = 5) (hb : base ≤ w.heap.size) (hd : DeskAt w base db dv) (ho : OpsAt w base x.a x.os) (hl : x.os.length ≤ 2513169434846) :
    Calls Tryz.prog 4 #[t, noR, .agg #[.int .i64 x.k, .int .i64 x.s, .int .i64 x.st, .slice x.a x.os.length x.c, .string x.pl, .int .i64 x.nn], .pointer (some ⟨db, 0, none⟩)] w fun e w' => ∃ dv', e = .returned (.tuple #[t, noR, .bool true]) ∧ DeskAt w' base db dv' ∧ Below base w w' ∧ Chg w w' (fun k => k = db ∨ dv.ownBlock = some k) := by
  obtain ⟨k, s, st, a, c, os, pl, nn⟩ := x
  have hn : NoTree w t := ht.no (Below.refl _ _) hb
  by_cases h1 : k = 1
  · subst h1
    exact plays_play base db dv w t ht os s st nn a c pl hb hd ho hl
  · by_cases h2 : k = 2
    · subst h2
      exact (plays_end w t db hn s st nn a os.length c pl).mono (fun e w' h => ⟨dv, h.1, hd.below h.2, h.2.mono hb, Chg.of_below h.2 _⟩)
    · by_cases h3 : k = 3
      · subst h3
        exact (plays_part w t db hn s st nn a os.length c pl).mono (fun e w' h => ⟨dv, h.1, hd.below h.2, h.2.mono hb, Chg.of_below h.2 _⟩)
      · by_cases h4 : k = 4
        · subst h4
          exact (plays_nodes w t db hn s st nn a os.length c pl).mono (fun e w' h => ⟨dv, h.1, hd.below h.2, h.2.mono hb, Chg.of_below h.2 _⟩)
        · exact (plays_else w t db k s st nn a os.length c pl h1 h2 h3 h4 h5).mono (fun e w' h => ⟨dv, h.1, hd.below h.2, h.2.mono hb, Chg.of_below h.2 _⟩)

abbrev Kp (w w' : World) : Prop := Below w.heap.size w w'
theorem below_drew0 (w : World) : Below w.heap.size w w.drew := ⟨rfl, rfl, rfl, Nat.le_refl _, fun _ _ => rfl⟩
theorem rounds {W w w' : World} {dv : Value} (hd : DeskAt w (W.heap.size + 1 + 1) (W.heap.size + 1 + 1) dv) (hz : w.heap[W.heap.size]? = some (.cells #[.map none] 27 (0, 0))) (hw : w.heap[W.heap.size + 1]? = some (.cells #[.slice none 0 0] 30 (0, 0))) (hb : Below W.heap.size W w) (hc : Chg w w' (fun k => k = W.heap.size + 1 + 1 ∨ dv.ownBlock = some k)) :
    w'.heap[W.heap.size]? = some (.cells #[.map none] 27 (0, 0)) ∧ w'.heap[W.heap.size + 1]? = some (.cells #[.slice none 0 0] 30 (0, 0)) ∧ Below W.heap.size W w' := by
  obtain ⟨h1, _, n, xs, h3⟩ := hd
  have hlow : ∀ k, (k = W.heap.size + 1 + 1 ∨ dv.ownBlock = some k) → W.heap.size + 1 + 1 ≤ k := fun k hk => by
    rcases hk with rfl | hk
    · exact Nat.le_refl _
    · exact (h3.lt k hk).1
  refine ⟨kept_chg hc hz (fun e => by have := hlow _ e; omega), kept_chg hc hw (fun e => by have := hlow _ e; omega), hb.trans (hc.below hb.size (fun k _ e => by have := hlow k e; omega))⟩
theorem desk_set {w : World} {B g : Nat} {dv v : Value} {cs : Array Value} (h : DeskAt w B B dv) (hg : w.heap[g]? = some (.cells cs 30 (0, 0))) : DeskAt (w.setCell ⟨g, 0, none⟩ v) B B dv := by
  obtain ⟨h1, h2, n, xs, h3⟩ := h
  refine ⟨other_blk h1 (fun e => ?_), h2, n, xs, owns_chg h3 (Chg.set _ _ _) (fun k hk e => ?_)⟩
  · rw [e, hg] at h1
    simp at h1
  · obtain ⟨cur, hc⟩ := owns_kind h3 hk
    rw [show k = g from e, hg] at hc
    simp at hc
theorem chg_undrew {w w' : World} {S : Nat → Prop} (h : Chg w.drew w' S) : Chg w w' S := ⟨h.os, h.tape, h.output, h.size, h.block⟩
theorem below_da (w : World) (o : Obj) : Below w.heap.size w (w.alloc o).drew := below_drew ((Below.refl _ _).alloc (Nat.le_refl _) _)
theorem newblk {w w' : World} {B : Nat} {dv : Value} {o : Obj} (hd : DeskAt w B B dv) (hc : Chg (w.alloc o) w' (fun k => k = B ∨ dv.ownBlock = some k)) : w'.heap[w.heap.size]? = some o := by
  obtain ⟨h1, _, n, xs, h3⟩ := hd
  refine kept_chg hc (heap_alloc_new _ _) (fun e => ?_)
  rcases e with e | e
  · have := (Array.getElem?_eq_some_iff.1 h1).1
    omega
  · have := (h3.lt _ e).2
    omega

set_option maxHeartbeats 6400000 in
set_option maxRecDepth 100000 in
theorem nothing_walk (W : World) (a : Option Addr) (c : Nat) (l : List StT) (hl : l.length ≤ maxLen) (hs : Steps W a l) (hg : GroundT W) :
    Calls Tryz.prog 3 #[.slice a l.length c] W fun e w' => e = .returned (.bool true) ∧ Below W.heap.size W w' := by
  unfold maxLen at hl
  have HS : Hid (Steps W a l) := hs
  have HG : Hid (GroundT W) := hg
  clear hs hg
  go_enter Tryz.func3, Tryz.ntmps3
  go_wp2_with fail
  go_loopw [7] (fun i wr => ∃ q : Nat, i = .int .i64 q ∧ q ≤ l.length ∧ (∃ dv, Hid (DeskAt wr (W.heap.size + 1 + 1) (W.heap.size + 1 + 1) dv)) ∧ Hid (wr.heap[W.heap.size]? = some (.cells #[.map none] 27 (0, 0))) ∧ Hid (wr.heap[W.heap.size + 1]? = some (.cells #[.slice none 0 0] 30 (0, 0))) ∧ Hid (Below W.heap.size W wr)) (fun i _ => l.length - (intOf i).toNat)
  case atStart =>
    refine ⟨0, rfl, Nat.zero_le _, ⟨.slice none 0 0, ?_⟩, ?_, ?_, ?_⟩
    · exact ⟨heap_alloc_new' (by simp), Nat.le_refl _, 0, [], World.ownsRow_nil _ _ _ _⟩
    · exact heap_alloc_old (heap_alloc_old (heap_alloc_new _ _))
    · exact heap_alloc_old (heap_alloc_new' (by simp))
    · exact (((Below.refl _ _).alloc (Nat.le_refl _) _).alloc (by simp) _).alloc (by simp; omega) _
  case round =>
    obtain ⟨q, rfl, hq, ⟨dv, HDk⟩, HZk, HWk, HBk⟩ := hrel
    by_cases hlt : q < l.length
    · have hlt' : (q : Int) < (l.length : Int) := by omega
      by_cases h120 : (q : Int) < 120
      · obtain ⟨x, hx⟩ : ∃ x, l[q]? = some x := ⟨l[q], List.getElem?_eq_getElem hlt⟩
        obtain ⟨b, f, rfl, hbl, hcs, ho, hol⟩ := HS.out q x hx
        have hcell : ∀ w', Below W.heap.size W w' → ∀ j v, x.cells[j]? = some v → w'.cell? ⟨b, f + q * 6 + j, none⟩ = some v := fun w' hb j v hv => by rw [hb.cell (p := ⟨b, f + q * 6 + j, none⟩) hbl]; exact hcs j v hv
        have HCE : Hid _ := hcell
        have HOP : Hid (OpsAt W W.heap.size x.a x.os) := ho
        have HOL : Hid (x.os.length ≤ 2513169434846) := hol
        have k0 : wr.cell? ⟨b, f + q * 6, none⟩ = some (.int .i64 x.k) := hcell wr HBk.out 0 _ rfl
        have k1 := hcell wr HBk.out 1 _ rfl
        have k2 := hcell wr HBk.out 2 _ rfl
        have k3 := hcell wr HBk.out 3 _ rfl
        have k4 := hcell wr HBk.out 4 _ rfl
        have k5 := hcell wr HBk.out 5 _ rfl
        have v0 := cells_1 HWk.out
        clear hcell ho hol hcs hx
        by_cases h5 : x.k = 5
        · rw [h5] at k0
          go_wp2_with fail
          go_roundw
          case rel => exact ⟨q + 1, by go_num, by omega, ⟨dv, HDk.out⟩, HZk.out, HWk.out, HBk.out⟩
          case measure => simp [intOf]; omega
        · have H5 : Hid (¬ x.k = 5) := h5
          have hwl : W.heap.size + 1 + 1 < wr.heap.size := (Array.getElem?_eq_some_iff.1 HDk.out.1).1
          have eb : b ≠ wr.heap.size := by omega
          have ev : W.heap.size + 1 ≠ wr.heap.size := by omega
          have HPL : Hid (∀ w', Kp wr w' → Calls Tryz.prog 4 #[.pointer none, noR, .agg #[.int .i64 x.k, .int .i64 x.s, .int .i64 x.st, .slice x.a x.os.length x.c, .string x.pl, .int .i64 x.nn], .pointer (some ⟨W.heap.size + 1 + 1, 0, none⟩)] w' fun e w'' => ∃ dv', e = .returned (.tuple #[.pointer none, noR, .bool true]) ∧ DeskAt w'' (W.heap.size + 1 + 1) (W.heap.size + 1 + 1) dv' ∧ Below (W.heap.size + 1 + 1) w' w'' ∧ Chg w' w'' (fun k => k = W.heap.size + 1 + 1 ∨ dv.ownBlock = some k)) := fun w' hk => plays_any _ _ dv w' _ (.inl rfl) x H5.out (by have := hk.size; omega) (HDk.out.below hk) (opsAt_mono (HOP.out.below (trans2 HBk.out hk)) (by omega)) HOL.out
          go_wp2_with fail
          go_cut [10] from 18 to 63 (fun sv wc => sv = .bool true ∧ (∃ dv, Hid (DeskAt wc (W.heap.size + 1 + 1) (W.heap.size + 1 + 1) dv)) ∧ Hid (wc.heap[W.heap.size]? = some (.cells #[.map none] 27 (0, 0))) ∧ Hid (wc.heap[W.heap.size + 1]? = some (.cells #[.slice none 0 0] 30 (0, 0))) ∧ Hid (Below W.heap.size W wc))
          case first =>
            go_region_held3 (fun w' => w'.cell? ⟨W.heap.size + 1, 0, none⟩ = some (.slice none 0 0) ∧ w'.cell? ⟨b, f + q * 6, none⟩ = some (.int .i64 x.k) ∧ w'.cell? ⟨b, f + q * 6 + 1, none⟩ = some (.int .i64 x.s) ∧ w'.cell? ⟨b, f + q * 6 + 2, none⟩ = some (.int .i64 x.st) ∧ w'.cell? ⟨b, f + q * 6 + 3, none⟩ = some (.slice x.a x.os.length x.c) ∧ w'.cell? ⟨b, f + q * 6 + 4, none⟩ = some (.string x.pl) ∧ w'.cell? ⟨b, f + q * 6 + 5, none⟩ = some (.int .i64 x.nn)) (first | go_keep | exact ⟨v0, k0, k1, k2, k3, k4, k5⟩ | (simp only [cellN eb, cellN ev, v0, k0, k1, k2, k3, k4, k5, and_self]))
              (first
              | (go_at_call 4; refine (HPL.out _ (below_drew0 wr)).mono ?_; rintro e w3 ⟨dv3, rfl, hd3, hb3, hc3⟩
                 have HD3 : Hid (DeskAt w3 (W.heap.size + 1 + 1) (W.heap.size + 1 + 1) dv3) := hd3
                 have HC3 : Hid (Chg wr w3 (fun k => k = (W.heap.size + 1 + 1) ∨ dv.ownBlock = some k)) := chg_undrew hc3
                 have HP3 : Hid _ := rounds HDk.out HZk.out HWk.out HBk.out HC3.out
                 clear hd3 hb3 hc3 v0 k0 k1 k2 k3 k4 k5
                 have v0 := cells_1 HP3.out.2.1
                 have k0 : w3.cell? ⟨b, f + q * 6, none⟩ = some (.int .i64 x.k) := HCE.out w3 HP3.out.2.2 0 _ rfl
                 have k1 := HCE.out w3 HP3.out.2.2 1 _ rfl
                 have k2 := HCE.out w3 HP3.out.2.2 2 _ rfl
                 have k3 := HCE.out w3 HP3.out.2.2 3 _ rfl
                 have k4 := HCE.out w3 HP3.out.2.2 4 _ rfl
                 have k5 := HCE.out w3 HP3.out.2.2 5 _ rfl)
              | (go_at_call 4; refine (HPL.out _ (below_da wr _)).mono ?_; rintro e w3 ⟨dv3, rfl, hd3, hb3, hc3⟩
                 have HD3 : Hid (DeskAt w3 (W.heap.size + 1 + 1) (W.heap.size + 1 + 1) dv3) := hd3
                 have HC3' : Hid (Chg (wr.alloc (.cells #[.slice none 0 0] 30)) w3 (fun k => k = (W.heap.size + 1 + 1) ∨ dv.ownBlock = some k)) := chg_undrew hc3
                 have HC3 : Hid (Chg wr w3 (fun k => k = (W.heap.size + 1 + 1) ∨ dv.ownBlock = some k)) := (Chg.alloc _ _ _).trans HC3'.out
                 have HP3 : Hid _ := rounds HDk.out HZk.out HWk.out HBk.out HC3.out
                 have HV3 : Hid (w3.heap[wr.heap.size]? = some (.cells #[.slice none 0 0] 30 (0, 0))) := newblk HDk.out HC3'.out
                 clear hd3 hb3 hc3 v0 k0 k1 k2 k3 k4 k5
                 have v0 := cells_1 HP3.out.2.1
                 have k0 : w3.cell? ⟨b, f + q * 6, none⟩ = some (.int .i64 x.k) := HCE.out w3 HP3.out.2.2 0 _ rfl
                 have k1 := HCE.out w3 HP3.out.2.2 1 _ rfl
                 have k2 := HCE.out w3 HP3.out.2.2 2 _ rfl
                 have k3 := HCE.out w3 HP3.out.2.2 3 _ rfl
                 have k4 := HCE.out w3 HP3.out.2.2 4 _ rfl
                 have k5 := HCE.out w3 HP3.out.2.2 5 _ rfl
                 have y0 := cells_1 HV3.out
                 have yf := free_1 HV3.out)
              | fail)
            all_goals
              go_wp2_with fail
              go_meet
              case rel =>
                first
                  | exact ⟨rfl, ⟨dv3, desk_set HD3.out HV3.out⟩, other_blk HP3.out.1 (by omega), other_blk HP3.out.2.1 (by omega), HP3.out.2.2.setCell (by show W.heap.size ≤ wr.heap.size; omega) _⟩
                  | exact ⟨rfl, ⟨dv3, HD3.out.below ((Below.refl _ _).alloc (Nat.le_refl _) _)⟩, heap_alloc_old HP3.out.1, heap_alloc_old HP3.out.2.1, HP3.out.2.2.alloc HP3.out.2.2.size _⟩
          case rest =>
            obtain ⟨rfl, ⟨dv', HDk'⟩, HZk', HWk', HBk'⟩ := hcut
            clear v0 k0 k1 k2 k3 k4 k5 HPL eb ev hwl
            have v0 := cells_1 HWk'.out
            have k0 : wc.cell? ⟨b, f + q * 6, none⟩ = some (.int .i64 x.k) := HCE.out wc HBk'.out 0 _ rfl
            have k1 := HCE.out wc HBk'.out 1 _ rfl
            have k2 := HCE.out wc HBk'.out 2 _ rfl
            have k3 := HCE.out wc HBk'.out 3 _ rfl
            have k4 := HCE.out wc HBk'.out 4 _ rfl
            have k5 := HCE.out wc HBk'.out 5 _ rfl
            have hwl : W.heap.size + 1 + 1 < wc.heap.size := (Array.getElem?_eq_some_iff.1 HDk'.out.1).1
            have eb : b ≠ wc.heap.size := by omega
            have ev : W.heap.size + 1 ≠ wc.heap.size := by omega
            have HPM : Hid (∀ w', Kp wc w' → Calls Tryz.prog 4 #[.pointer (some ⟨W.heap.size, 0, none⟩), noR, .agg #[.int .i64 x.k, .int .i64 x.s, .int .i64 x.st, .slice x.a x.os.length x.c, .string x.pl, .int .i64 x.nn], .pointer (some ⟨W.heap.size + 1 + 1, 0, none⟩)] w' fun e w'' => ∃ dv9, e = .returned (.tuple #[.pointer (some ⟨W.heap.size, 0, none⟩), noR, .bool true]) ∧ DeskAt w'' (W.heap.size + 1 + 1) (W.heap.size + 1 + 1) dv9 ∧ Below (W.heap.size + 1 + 1) w' w'' ∧ Chg w' w'' (fun k => k = W.heap.size + 1 + 1 ∨ dv'.ownBlock = some k)) := fun w' hk => plays_any _ _ dv' w' _ (.inr ⟨W.heap.size, rfl, cells_1 (kept_block hk HZk'.out), by omega⟩) x H5.out (by have := hk.size; omega) (HDk'.out.below hk) (opsAt_mono (HOP.out.below (trans2 HBk'.out hk)) (by omega)) HOL.out
            go_wp2_with fail
            go_cut [13] from 18 to 63 (fun sv wd => sv = .bool true ∧ (∃ dv, Hid (DeskAt wd (W.heap.size + 1 + 1) (W.heap.size + 1 + 1) dv)) ∧ Hid (wd.heap[W.heap.size]? = some (.cells #[.map none] 27 (0, 0))) ∧ Hid (wd.heap[W.heap.size + 1]? = some (.cells #[.slice none 0 0] 30 (0, 0))) ∧ Hid (Below W.heap.size W wd))
            case first =>
              go_region_held3 (fun w' => w'.cell? ⟨W.heap.size + 1, 0, none⟩ = some (.slice none 0 0) ∧ w'.cell? ⟨b, f + q * 6, none⟩ = some (.int .i64 x.k) ∧ w'.cell? ⟨b, f + q * 6 + 1, none⟩ = some (.int .i64 x.s) ∧ w'.cell? ⟨b, f + q * 6 + 2, none⟩ = some (.int .i64 x.st) ∧ w'.cell? ⟨b, f + q * 6 + 3, none⟩ = some (.slice x.a x.os.length x.c) ∧ w'.cell? ⟨b, f + q * 6 + 4, none⟩ = some (.string x.pl) ∧ w'.cell? ⟨b, f + q * 6 + 5, none⟩ = some (.int .i64 x.nn)) (first | go_keep | exact ⟨v0, k0, k1, k2, k3, k4, k5⟩ | (simp only [cellN eb, cellN ev, v0, k0, k1, k2, k3, k4, k5, and_self]))
                (first
                | (go_at_call 4; refine (HPM.out _ (below_drew0 wc)).mono ?_; rintro e w3 ⟨dv3, rfl, hd3, hb3, hc3⟩
                   have HD3 : Hid (DeskAt w3 (W.heap.size + 1 + 1) (W.heap.size + 1 + 1) dv3) := hd3
                   have HC3 : Hid (Chg wc w3 (fun k => k = (W.heap.size + 1 + 1) ∨ dv'.ownBlock = some k)) := chg_undrew hc3
                   have HP3 : Hid _ := rounds HDk'.out HZk'.out HWk'.out HBk'.out HC3.out
                   clear hd3 hb3 hc3 v0 k0 k1 k2 k3 k4 k5
                   have v0 := cells_1 HP3.out.2.1
                   have k0 : w3.cell? ⟨b, f + q * 6, none⟩ = some (.int .i64 x.k) := HCE.out w3 HP3.out.2.2 0 _ rfl
                   have k1 := HCE.out w3 HP3.out.2.2 1 _ rfl
                   have k2 := HCE.out w3 HP3.out.2.2 2 _ rfl
                   have k3 := HCE.out w3 HP3.out.2.2 3 _ rfl
                   have k4 := HCE.out w3 HP3.out.2.2 4 _ rfl
                   have k5 := HCE.out w3 HP3.out.2.2 5 _ rfl)
                | (go_at_call 4; refine (HPM.out _ (below_da wc _)).mono ?_; rintro e w3 ⟨dv3, rfl, hd3, hb3, hc3⟩
                   have HD3 : Hid (DeskAt w3 (W.heap.size + 1 + 1) (W.heap.size + 1 + 1) dv3) := hd3
                   have HC3' : Hid (Chg (wc.alloc (.cells #[.slice none 0 0] 30)) w3 (fun k => k = (W.heap.size + 1 + 1) ∨ dv'.ownBlock = some k)) := chg_undrew hc3
                   have HC3 : Hid (Chg wc w3 (fun k => k = (W.heap.size + 1 + 1) ∨ dv'.ownBlock = some k)) := (Chg.alloc _ _ _).trans HC3'.out
                   have HP3 : Hid _ := rounds HDk'.out HZk'.out HWk'.out HBk'.out HC3.out
                   have HV3 : Hid (w3.heap[wc.heap.size]? = some (.cells #[.slice none 0 0] 30 (0, 0))) := newblk HDk'.out HC3'.out
                   clear hd3 hb3 hc3 v0 k0 k1 k2 k3 k4 k5
                   have v0 := cells_1 HP3.out.2.1
                   have k0 : w3.cell? ⟨b, f + q * 6, none⟩ = some (.int .i64 x.k) := HCE.out w3 HP3.out.2.2 0 _ rfl
                   have k1 := HCE.out w3 HP3.out.2.2 1 _ rfl
                   have k2 := HCE.out w3 HP3.out.2.2 2 _ rfl
                   have k3 := HCE.out w3 HP3.out.2.2 3 _ rfl
                   have k4 := HCE.out w3 HP3.out.2.2 4 _ rfl
                   have k5 := HCE.out w3 HP3.out.2.2 5 _ rfl
                   have y0 := cells_1 HV3.out
                   have yf := free_1 HV3.out)
                | fail)
              all_goals
                go_wp2_with fail
                go_meet
                case rel =>
                  first
                    | exact ⟨rfl, ⟨dv3, desk_set HD3.out HV3.out⟩, other_blk HP3.out.1 (by omega), other_blk HP3.out.2.1 (by omega), HP3.out.2.2.setCell (by show W.heap.size ≤ wc.heap.size; omega) _⟩
                    | exact ⟨rfl, ⟨dv3, HD3.out.below ((Below.refl _ _).alloc (Nat.le_refl _) _)⟩, heap_alloc_old HP3.out.1, heap_alloc_old HP3.out.2.1, HP3.out.2.2.alloc HP3.out.2.2.size _⟩
            case rest =>
              obtain ⟨rfl, ⟨dv9, HDk9⟩, HZk9, HWk9, HBk9⟩ := hcut
              clear v0 k0 k1 k2 k3 k4 k5
              go_wp2_with fail
              go_roundw
              case rel => exact ⟨q + 1, by go_num, by omega, ⟨dv9, HDk9.out⟩, HZk9.out, HWk9.out, HBk9.out⟩
              case measure => simp [intOf]; omega
      · go_wp2_with fail
        refine (knownT_any wr (HG.out.below HBk.out)).mono ?_
        rintro e w9 ⟨rfl, hb9⟩
        have HB9 : Hid (Below W.heap.size W w9) := trans2 HBk.out hb9
        clear hb9
        go_wp2_with fail
        go_ret
        exact ⟨rfl, HB9.out⟩
    · have hge : ¬ (q : Int) < (l.length : Int) := by omega
      go_wp2_with fail
      refine (knownT_any wr (HG.out.below HBk.out)).mono ?_
      rintro e w9 ⟨rfl, hb9⟩
      have HB9 : Hid (Below W.heap.size W w9) := trans2 HBk.out hb9
      clear hb9
      go_wp2_with fail
      go_ret
      exact ⟨rfl, HB9.out⟩
end Go.Proofs.YtfjklpgnlkgfoaaGreatDoor
