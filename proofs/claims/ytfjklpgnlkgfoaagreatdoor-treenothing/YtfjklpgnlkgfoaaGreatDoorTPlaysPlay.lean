/-
  tree: Play, as a step, at no tree.
-/
import Derived.Test.YtfjklpgnlkgfoaaGreatDoorTPlaysNo
namespace Go.Proofs.YtfjklpgnlkgfoaaGreatDoor
open Go.RowKit Go.Maps
set_option linter.unusedVariables false
set_option linter.unusedSimpArgs false

/-- No tree, and its block lies low. -/
def NoTreeB (w : World) (base : Nat) (t : Value) : Prop := t = .pointer none ∨ ∃ b, t = .pointer (some ⟨b, 0, none⟩) ∧ w.cell? ⟨b, 0, none⟩ = some (.map none) ∧ b < base
theorem NoTreeB.no {w w' : World} {base : Nat} {t : Value} (h : NoTreeB w base t) (hb : Below base w w') (hs : base ≤ w.heap.size) : NoTree w' t := by
  rcases h with h | ⟨b, h1, h2, h3⟩
  · exact .inl h
  · exact .inr ⟨b, h1, by rw [hb.cell (p := ⟨b, 0, none⟩) h3]; exact h2, Nat.lt_of_lt_of_le (Nat.lt_of_lt_of_le h3 hs) hb.size⟩
theorem owns_cap {w : World} {B e s n g cap : Nat} {xs : List Value} (h : w.ownsRow B e s (.slice (some ⟨g, 0, none⟩) n cap) n xs) : n ≤ cap := by
  rcases h.2 with ⟨h0, _⟩ | ⟨g', cap', cur, hv, _, hg, hn, _⟩
  · cases h0
  · cases hv
    exact hn
theorem owns_set {w : World} {B e s n g cap k : Nat} {xs : List Value} (h : w.ownsRow B e s (.slice (some ⟨g, 0, none⟩) n cap) n xs) (x : Value) : (w.setCell ⟨g, k, none⟩ x).ownsRow B e s (.slice (some ⟨g, 0, none⟩) n cap) n (xs.set k x) := by
  refine ⟨by rw [List.length_set]; exact h.1, ?_⟩
  rcases h.2 with ⟨h0, _⟩ | ⟨g', cap', cur, hv, hB, hg, hn, hc, hsz, ht⟩
  · cases h0
  · cases hv
    refine .inr ⟨g, cap, cur.setIfInBounds k x, rfl, hB, heap_setCell_same w g k cur e x hg, hn, hc, by simpa using hsz, ?_⟩
    rw [← ht, Array.toList_setIfInBounds, List.take_set]
theorem blk_of {w : World} {B e s n g cap : Nat} {xs : List Value} (h : w.ownsRow B e s (.slice (some ⟨g, 0, none⟩) n cap) n xs) (k : Nat) : w.frozen? ⟨g, k, none⟩ = false := by
  rcases h.2 with ⟨h0, _⟩ | ⟨g', cap', cur, hv, hB, hg, hn, hc, hsz, ht⟩
  · cases h0
  · cases hv
    simp [World.frozen?, hg]
theorem some_n {w : World} {B e s n g cap k : Nat} {xs : List Value} (h : w.ownsRow B e s (.slice (some ⟨g, 0, none⟩) n cap) n xs) (hk : k < n * s) : ∃ x, w.cell? ⟨g, k, none⟩ = some x := by
  have hl : k < xs.length := by have := h.1; omega
  exact ⟨xs[k], cell_n h (List.getElem?_eq_getElem hl)⟩
/-- Blocks that stand. -/
structure BL (W : World) (L : List (Nat × Obj)) : Prop where
  bl : ∀ x ∈ L, W.heap[x.1]? = some x.2
theorem BL.below {W W' : World} {L : List (Nat × Obj)} (h : BL W L) (hb : Below W.heap.size W W') : BL W' L := ⟨fun x hx => kept_block hb (h.bl x hx)⟩
theorem BL.push {W : World} {L : List (Nat × Obj)} (h : BL W L) (o : Obj) : BL (W.alloc o) (L ++ [(W.heap.size, o)]) := by
  refine ⟨fun x hx => ?_⟩
  rcases List.mem_append.1 hx with hx | hx
  · exact heap_alloc_old (h.bl x hx)
  · simp only [List.mem_singleton] at hx
    subst hx
    exact heap_alloc_new _ _
theorem BL.chg {W W' : World} {L : List (Nat × Obj)} {S : Nat → Prop} (h : BL W L) (hc : Chg W W' S) (hs : ∀ x ∈ L, ¬ S x.1) : BL W' L := ⟨fun x hx => kept_chg hc (h.bl x hx) (hs x hx)⟩
theorem BL.row {W W' : World} {L : List (Nat × Obj)} {g : Nat} {e : TypeId} (h : BL W L) (hc : Chg W W' (fun k => k = g)) (hk : ∃ cur, W.heap[g]? = some (.cells cur e (0, 0))) (ht : ∀ x ∈ L, ∀ cur, x.2 ≠ .cells cur e (0, 0)) : BL W' L := h.chg hc (fun x hx e' => by
  obtain ⟨cur, hk⟩ := hk
  rw [← show x.1 = g from e', h.bl x hx] at hk
  exact ht x hx cur (Option.some.inj hk))
theorem DeskAt.below {w w' : World} {base db : Nat} {dv : Value} (h : DeskAt w base db dv) (hb : Below w.heap.size w w') : DeskAt w' base db dv := by
  obtain ⟨h1, h2, n, xs, h3⟩ := h
  exact ⟨kept_block hb h1, h2, n, xs, owns_chg h3 (Chg.of_below hb (fun _ => False)) (fun _ _ => id)⟩
theorem OpsAt.below {w w' : World} {base : Nat} {a : Option Addr} {os : List OpT} (h : OpsAt w base a os) (hb : Below base w w') : OpsAt w' base a os := by
  intro i o hi
  obtain ⟨b, f, h1, h2, h3⟩ := h i o hi
  exact ⟨b, f, h1, h2, fun j x hx => by rw [hb.cell (p := ⟨b, f + i * 5 + j, none⟩) h2]; exact h3 j x hx⟩
abbrev rNo (st : Int) : Array Value := #[.int .i64 st, .int .i64 1, .int .i64 0, .slice none 0 0]
abbrev L5 (w w1 : World) (cs : Array Value) (st : Int) : List (Nat × Obj) := [(w.heap.size, .cells #[.slice none 0 0] 30), (w.heap.size + 1, .cells cs 36), (w.heap.size + 1 + 1, .cells #[.slice none 0 0] 30), (w1.heap.size, .cells #[.slice none 0 0] 30), (w1.heap.size + 1, .cells (rNo st) 44)]
theorem L5.start {w w1 : World} {cs : Array Value} {st : Int} (h : PlIn w w1 cs) : BL ((w1.alloc (.cells #[.slice none 0 0] 30)).alloc (.cells (rNo st) 44)) (L5 w w1 cs st) := by
  have h0 : BL w1 [(w.heap.size, .cells #[.slice none 0 0] 30), (w.heap.size + 1, .cells cs 36), (w.heap.size + 1 + 1, .cells #[.slice none 0 0] 30)] := ⟨fun x hx => by
    simp only [List.mem_cons, List.not_mem_nil, or_false] at hx
    rcases hx with rfl | rfl | rfl
    · exact h.tr
    · exact h.sp
    · exact h.rs⟩
  have h1 := (h0.push (.cells #[.slice none 0 0] 30)).push (.cells (rNo st) 44)
  simpa using h1

theorem L5.tr {W w w1 : World} {cs : Array Value} {st : Int} (h : BL W (L5 w w1 cs st)) : W.heap[w.heap.size]? = some (.cells #[.slice none 0 0] 30 (0, 0)) := h.bl (w.heap.size, .cells #[.slice none 0 0] 30) (by simp)
theorem L5.sp {W w w1 : World} {cs : Array Value} {st : Int} (h : BL W (L5 w w1 cs st)) : W.heap[w.heap.size + 1]? = some (.cells cs 36 (0, 0)) := h.bl (w.heap.size + 1, .cells cs 36) (by simp)
theorem L5.rs {W w w1 : World} {cs : Array Value} {st : Int} (h : BL W (L5 w w1 cs st)) : W.heap[w.heap.size + 1 + 1]? = some (.cells #[.slice none 0 0] 30 (0, 0)) := h.bl (w.heap.size + 1 + 1, .cells #[.slice none 0 0] 30) (by simp)
theorem L5.v {W w w1 : World} {cs : Array Value} {st : Int} (h : BL W (L5 w w1 cs st)) : W.heap[w1.heap.size]? = some (.cells #[.slice none 0 0] 30 (0, 0)) := h.bl (w1.heap.size, .cells #[.slice none 0 0] 30) (by simp)
theorem L5.r {W w w1 : World} {cs : Array Value} {st : Int} (h : BL W (L5 w w1 cs st)) : W.heap[w1.heap.size + 1]? = some (.cells (rNo st) 44 (0, 0)) := h.bl (w1.heap.size + 1, .cells (rNo st) 44) (by simp)

set_option maxHeartbeats 6400000 in
set_option maxRecDepth 100000 in
theorem plays_play (base db : Nat) (dv : Value) (w : World) (t : Value) (ht : NoTreeB w base t) (os : List OpT) (s st nn : Int) (a : Option Addr) (c : Nat) (pl : ByteArray) (hb : base ≤ w.heap.size) (hd : DeskAt w base db dv) (ho : OpsAt w base a os) (hl : os.length ≤ 2513169434846) :
    Calls Tryz.prog 4 #[t, noR, .agg (stCs 1 s st a os.length c pl nn), .pointer (some ⟨db, 0, none⟩)] w fun e w' => ∃ dv', e = .returned (.tuple #[t, noR, .bool true]) ∧ DeskAt w' base db dv' ∧ Below base w w' ∧ Chg w w' (fun k => k = db ∨ dv.ownBlock = some k) := by
  have HT : Hid (NoTreeB w base t) := ht
  have HS : Hid _ := plIn_start w (stCs 1 s st a os.length c pl nn)
  have HD : Hid (DeskAt w base db dv) := hd
  have HO : Hid (OpsAt w base a os) := ho
  clear ht hd ho
  go_enter Tryz.func4, Tryz.ntmps4
  go_wp2_with fail
  refine (refPlay_no _ s st a os.length c).mono ?_
  rintro e w1 ⟨rfl, hb1⟩
  have H1 : Hid (PlIn w w1 (stCs 1 s st a os.length c pl nn)) := HS.out.below hb1
  have HL : Hid _ := L5.start (st := st) H1.out
  have HA : Hid (Below w.heap.size w ((w1.alloc (.cells #[.slice none 0 0] 30)).alloc (.cells (rNo st) 44))) := (H1.out.low.alloc H1.out.low.size _).alloc (by have := H1.out.low.size; simp; omega) _
  obtain ⟨s0, s1, s2, s3, s4, s5⟩ := cells_6 H1.out.sp
  obtain ⟨t0, t1, t2, t3, t4, t5⟩ := cells_6 (L5.sp HL.out)
  have HTW : Hid _ := twin_any base db dv ((w1.alloc (.cells #[.slice none 0 0] 30)).alloc (.cells (rNo st) 44)) os a c (Nat.le_trans hb HA.out.size) (HD.out.below HA.out) (HO.out.below (HA.out.mono hb)) hl
  clear hb1
  go_wp2_with fail
  refine Calls.mono HTW.out ?_
  rintro e w2 ⟨g, cap, rfl, hd2, hr2, hb2, hc2, hg2⟩
  have HG2 : Hid (dv.ownBlock = some g ∨ w.heap.size ≤ g) := hg2.imp id (fun h => Nat.le_trans HA.out.size h)
  have HC2 : Hid (Chg w w2 (fun k => k = db ∨ dv.ownBlock = some k)) := (Chg.of_below HA.out _).trans hc2
  have HD2 : Hid (DeskAt w2 base db (.slice (some ⟨g, 0, none⟩) (os.length + 2) cap)) := hd2
  have HR2 : Hid (w2.ownsRow base 53 5 (.slice (some ⟨g, 0, none⟩) (os.length + 2) cap) (os.length + 2) (opCs os ++ roomCs)) := hr2
  have HB2 : Hid (Below base w w2) := (HA.out.mono hb).trans hb2
  have HL2 : Hid (BL w2 (L5 w w1 (stCs 1 s st a os.length c pl nn) st)) := HL.out.chg hc2 (fun x hx e => by
    have h0 : w.heap.size ≤ x.1 := by
      have := H1.out.low.size
      simp only [L5, List.mem_cons, List.not_mem_nil, or_false] at hx
      rcases hx with rfl | rfl | rfl | rfl | rfl <;> simp <;> omega
    obtain ⟨e1, _, n0, xs0, e3⟩ := HD.out
    rcases e with e | e
    · have := (Array.getElem?_eq_some_iff.1 e1).1
      omega
    · have := (e3.lt _ e).2
      omega)
  obtain ⟨q0, q1, q2, q3, q4, q5⟩ := cells_6 (L5.sp HL2.out)
  clear hd2 hr2 hb2 hc2 hg2 s0 s1 s2 s3 s4 s5 t0 t1 t2 t3 t4 t5
  have HPN : Hid (∀ w', Below base w w' → Calls Tryz.prog 8 #[t, .int .i64 s, .int .i64 st, .slice (some ⟨g, 0, none⟩) os.length cap] w' fun e w'' => e = .returned (.tuple #[.agg #[.int .i64 st, .int .i64 1, .int .i64 0, .slice none 0 0], .slice none 0 0]) ∧ Below w'.heap.size w' w'') := fun w' hb' => play_no (HT.out.no hb' hb) s st _ _ _
  have hcap2 := owns_cap HR2.out
  have hq2 : w.heap.size + 1 ≠ w2.heap.size := by have := (Array.getElem?_eq_some_iff.1 (L5.sp HL2.out)).1; omega
  have hle2 : (os.length : Int) ≤ (cap : Int) := by omega
  go_wp2_with fail
  go_cut [15, 16] from 31 (fun s15 s16 wc => ∃ xb, s15 = .pointer (some ⟨xb, 0, none⟩) ∧ s16 = .slice none 0 0 ∧ Hid (wc.heap[xb]? = some (.cells (rNo st) 44 (0, 0))) ∧ w2.heap.size ≤ xb ∧ Hid (Below w2.heap.size w2 wc))
  case first =>
    go_region_held3 (fun w' => w'.cell? ⟨w.heap.size + 1, 1, none⟩ = some (.int .i64 s) ∧ w'.cell? ⟨w.heap.size + 1, 2, none⟩ = some (.int .i64 st) ∧ w'.cell? ⟨w.heap.size + 1, 3, none⟩ = some (.slice a os.length c)) (first | go_keep | exact ⟨q1, q2, q3⟩ | (simp only [cellN hq2, q1, q2, q3, and_self]))
      (first
      | (go_at_call 8; refine (HPN.out _ (below_drew HB2.out)).mono ?_; rintro e w3 ⟨rfl, hb3⟩
         have HB3 : Hid (Below w2.heap.size w2 w3) := of_drew hb3
         have HL3 : Hid _ := HL2.out.below HB3.out
         clear hb3 q0 q1 q2 q3 q4 q5
         obtain ⟨q0, q1, q2, q3, q4, q5⟩ := cells_6 (L5.sp HL3.out))
      | (go_at_call 8; refine (HPN.out _ (below_drew (HB2.out.alloc (by have := HB2.out.size; omega) (.cells #[.int .i64 0, .int .i64 0, .int .i64 0, .slice none 0 0] 44)))).mono ?_; rintro e w3 ⟨rfl, hb3⟩
         have HB3' : Hid (Below (w2.alloc (.cells #[.int .i64 0, .int .i64 0, .int .i64 0, .slice none 0 0] 44)).heap.size (w2.alloc (.cells #[.int .i64 0, .int .i64 0, .int .i64 0, .slice none 0 0] 44)) w3) := of_drew hb3
         have HB3 : Hid (Below w2.heap.size w2 w3) := trans2 ((Below.refl _ _).alloc (Nat.le_refl _) _) HB3'.out
         have HL3 : Hid _ := HL2.out.below HB3.out
         have HZ3 : Hid (w3.heap[w2.heap.size]? = some (.cells #[.int .i64 0, .int .i64 0, .int .i64 0, .slice none 0 0] 44 (0, 0))) := kept_block HB3'.out (heap_alloc_new _ _)
         clear hb3 q0 q1 q2 q3 q4 q5
         obtain ⟨q0, q1, q2, q3, q4, q5⟩ := cells_6 (L5.sp HL3.out)
         obtain ⟨z0, z1, z2, z3⟩ := cells_4 HZ3.out
         have zf := free_4 HZ3.out)
      | fail)
    all_goals
      go_wp2_with fail
      go_meet
      case rel =>
        first
          | exact ⟨w2.heap.size, rfl, rfl, fill_4 HZ3.out, Nat.le_refl _, fillB_4 HB3.out (Nat.le_refl _)⟩
          | exact ⟨w3.heap.size, rfl, rfl, heap_alloc_new _ _, HB3.out.size, HB3.out.alloc HB3.out.size _⟩
  case rest =>
    obtain ⟨xb, rfl, rfl, HX, hxb, HBc⟩ := hcut
    have HLc : Hid (BL wc (L5 w w1 (stCs 1 s st a os.length c pl nn) st)) := HL2.out.below HBc.out
    have HDc : Hid (DeskAt wc base db (.slice (some ⟨g, 0, none⟩) (os.length + 2) cap)) := HD2.out.below HBc.out
    have HRc : Hid (wc.ownsRow base 53 5 (.slice (some ⟨g, 0, none⟩) (os.length + 2) cap) (os.length + 2) (opCs os ++ roomCs)) := owns_chg HR2.out (Chg.of_below HBc.out (fun _ => False)) (fun _ _ => id)
    have HBw : Hid (Below base w wc) := HB2.out.trans (HBc.out.mono (by have := HB2.out.size; omega))
    have HUN : Hid _ := untouched_any base g cap wc os a c (HO.out.below HBw.out) HRc.out hl
    obtain ⟨y0, y1, y2, y3, y4, y5⟩ := cells_6 (L5.sp HLc.out)
    clear q0 q1 q2 q3 q4 q5
    go_wp2_with fail
    refine Calls.mono HUN.out ?_
    rintro e w5 ⟨rfl, hb5⟩
    have HL5 : Hid (BL w5 (L5 w w1 (stCs 1 s st a os.length c pl nn) st)) := HLc.out.below hb5
    have HD5 : Hid (DeskAt w5 base db (.slice (some ⟨g, 0, none⟩) (os.length + 2) cap)) := HDc.out.below hb5
    have HR5 : Hid (w5.ownsRow base 53 5 (.slice (some ⟨g, 0, none⟩) (os.length + 2) cap) (os.length + 2) (opCs os ++ roomCs)) := owns_chg HRc.out (Chg.of_below hb5 (fun _ => False)) (fun _ _ => id)
    have HC5 : Hid (Chg w w5 (fun k => k = db ∨ dv.ownBlock = some k)) := (HC2.out.trans (Chg.of_below HBc.out _)).trans (Chg.of_below hb5 _)
    have HB5 : Hid (Below base w w5) := HBw.out.trans (hb5.mono (by have := HBw.out.size; omega))
    have HX5 : Hid _ := kept_block hb5 HX.out
    clear hb5 y0 y1 y2 y3 y4 y5
    go_wp2_with fail
    have hl5 : (0 : Int) ≤ (os.length : Int) + 2 := by omega
    go_loopw [18] (fun i wr => ∃ q : Nat, i = .int .i64 q ∧ q ≤ os.length + 2 ∧ (∃ xs, Hid (wr.ownsRow base 53 5 (.slice (some ⟨g, 0, none⟩) (os.length + 2) cap) (os.length + 2) xs)) ∧ Hid (Chg w5 wr (fun k => k = g))) (fun i _ => os.length + 2 - (intOf i).toNat)
    case atStart => exact ⟨0, rfl, Nat.zero_le _, ⟨_, HR5.out⟩, Chg.refl _ _⟩
    case round =>
      obtain ⟨q, rfl, hq, ⟨xs, HRk⟩, HCk⟩ := hrel
      by_cases hlt : q < os.length + 2
      · obtain ⟨x0, k0⟩ := some_n (k := q * 5) HRk.out (by omega)
        obtain ⟨x1, k1⟩ := some_n (k := q * 5 + 1) HRk.out (by omega)
        obtain ⟨x2, k2⟩ := some_n (k := q * 5 + 2) HRk.out (by omega)
        obtain ⟨x3, k3⟩ := some_n (k := q * 5 + 3) HRk.out (by omega)
        obtain ⟨x4, k4⟩ := some_n (k := q * 5 + 4) HRk.out (by omega)
        have fz := blk_of HRk.out
        have hlt' : (q : Int) < (os.length : Int) + 2 := by omega
        have HRn : Hid _ := owns_set (k := q * 5 + 4) (owns_set (k := q * 5 + 3) (owns_set (k := q * 5 + 2) (owns_set (k := q * 5 + 1) (owns_set (k := q * 5) HRk.out (.int .i64 99)) (.string ⟨#[115, 112, 111, 105, 108, 116]⟩)) (.string ⟨#[115, 112, 111, 105, 108, 116]⟩)) (.int .i64 0)) (.int .i64 0)
        go_wp2_with fail
        go_roundw
        case rel => exact ⟨q + 1, by go_num, by omega, ⟨_, HRn.out⟩, ((((HCk.out.trans (Chg.set _ _ _)).trans (Chg.set _ _ _)).trans (Chg.set _ _ _)).trans (Chg.set _ _ _)).trans (Chg.set _ _ _)⟩
        case measure => simp [intOf]; omega
      · obtain rfl : q = os.length + 2 := by omega
        have hge : ¬ ((os.length : Int) + 2 < (os.length : Int) + 2) := by omega
        have hk5 : ∃ cur, w5.heap[g]? = some (.cells cur 53 (0, 0)) := owns_kind HR5.out rfl
        have HLr : Hid (BL wr (L5 w w1 (stCs 1 s st a os.length c pl nn) st)) := HL5.out.row HCk.out hk5 (fun x hx cur h => by
          simp only [L5, List.mem_cons, List.not_mem_nil, or_false] at hx
          rcases hx with rfl | rfl | rfl | rfl | rfl <;> simp at h)
        have HXr : Hid (wr.heap[xb]? = some (.cells (rNo st) 44 (0, 0))) := kept_chg HCk.out HX5.out (fun e => by
          obtain ⟨cur, hk5⟩ := hk5
          rw [← show xb = g from e, HX5.out] at hk5
          simp at hk5)
        have HDr : Hid (wr.heap[db]? = some (.cells #[.slice (some ⟨g, 0, none⟩) (os.length + 2) cap] 34 (0, 0))) := kept_chg HCk.out HD5.out.1 (fun e => by
          obtain ⟨cur, hk5⟩ := hk5
          rw [← show db = g from e, HD5.out.1] at hk5
          simp at hk5)
        have HBr : Hid (Below base w wr) := HB5.out.trans (HCk.out.below (by have := HB5.out.size; omega) (fun k _ e => by rw [show k = g from e]; exact (HR5.out.lt g rfl).1))
        have hz1 : w.heap.size + 1 + 1 < w1.heap.size := (Array.getElem?_eq_some_iff.1 H1.out.rs).1
        have hz2 : w1.heap.size + 1 < w2.heap.size := (Array.getElem?_eq_some_iff.1 (L5.r HL2.out)).1
        have e1 : w1.heap.size ≠ w.heap.size + 1 + 1 := by omega
        have e2 : xb ≠ w.heap.size + 1 + 1 := by omega
        have e3 : w1.heap.size + 1 ≠ w.heap.size + 1 + 1 := by omega
        have v0 := cells_1 (L5.v HLr.out)
        obtain ⟨r0, r1, r2, r3⟩ := cells_4 (L5.r HLr.out)
        obtain ⟨p0, p1, p2, p3⟩ := cells_4 HXr.out
        have o0 := cells_1 (L5.rs HLr.out)
        have of0 := free_1 (L5.rs HLr.out)
        have HRE : Hid (∀ w', Calls Tryz.prog 10 #[.agg (rNo st), .agg (rNo st)] w' fun e w'' => e = .returned (.bool true) ∧ Below w'.heap.size w' w'') := fun w' => reply_no w' st
        clear hk5
        go_wp2_with fail
        go_region_held3 (fun w' => w'.cell? ⟨w1.heap.size, 0, none⟩ = some (.slice none 0 0) ∧ w'.cell? ⟨xb, 0, none⟩ = some (.int .i64 st) ∧ w'.cell? ⟨xb, 1, none⟩ = some (.int .i64 1) ∧ w'.cell? ⟨xb, 2, none⟩ = some (.int .i64 0) ∧ w'.cell? ⟨xb, 3, none⟩ = some (.slice none 0 0) ∧ w'.cell? ⟨w1.heap.size + 1, 0, none⟩ = some (.int .i64 st) ∧ w'.cell? ⟨w1.heap.size + 1, 1, none⟩ = some (.int .i64 1) ∧ w'.cell? ⟨w1.heap.size + 1, 2, none⟩ = some (.int .i64 0) ∧ w'.cell? ⟨w1.heap.size + 1, 3, none⟩ = some (.slice none 0 0)) (first | go_keep | exact ⟨v0, p0, p1, p2, p3, r0, r1, r2, r3⟩ | (simp only [cellN e1, cellN e2, cellN e3, v0, p0, p1, p2, p3, r0, r1, r2, r3, and_self]))
          (first
          | (go_at_call 10; refine (HRE.out _).mono ?_; rintro e w6 ⟨rfl, hb6⟩
             have HB6 : Hid (Below wr.heap.size wr w6) := of_drew hb6
             have HL6 : Hid _ := HLr.out.below HB6.out
             have HX6 : Hid _ := kept_block HB6.out HXr.out
             clear hb6 v0 r0 r1 r2 r3 p0 p1 p2 p3 o0 of0
             have v0 := cells_1 (L5.v HL6.out)
             obtain ⟨r0, r1, r2, r3⟩ := cells_4 (L5.r HL6.out)
             obtain ⟨p0, p1, p2, p3⟩ := cells_4 HX6.out
             have o0 := cells_1 (L5.rs HL6.out)
             have of0 := free_1 (L5.rs HL6.out))
          | (go_at_call 11; refine (changes_no _).mono ?_; rintro e w7 ⟨rfl, hb7⟩
             have HB7 : Hid (Below wr.heap.size wr w7) := trans2 HB6.out hb7
             have HL7 : Hid _ := HLr.out.below HB7.out
             have HX7 : Hid _ := kept_block HB7.out HXr.out
             clear hb7 v0 r0 r1 r2 r3 p0 p1 p2 p3 o0 of0
             have v0 := cells_1 (L5.v HL7.out)
             obtain ⟨r0, r1, r2, r3⟩ := cells_4 (L5.r HL7.out)
             obtain ⟨p0, p1, p2, p3⟩ := cells_4 HX7.out
             have o0 := cells_1 (L5.rs HL7.out)
             have of0 := free_1 (L5.rs HL7.out))
          | fail)
        go_wp2_with fail
        have hdb : db ≠ w.heap.size + 1 + 1 := by have := (Array.getElem?_eq_some_iff.1 HD.out.1).1; omega
        have hrow7 : w7.ownsRow base 53 5 (.slice (some ⟨g, 0, none⟩) (os.length + 2) cap) (os.length + 2) xs := owns_chg HRk.out (Chg.of_below HB7.out (fun _ => False)) (fun _ _ => id)
        have hgz : g ≠ w.heap.size + 1 + 1 := fun e => by
          obtain ⟨cur, hc⟩ := owns_kind hrow7 rfl
          rw [e, L5.rs HL7.out] at hc
          simp at hc
        refine bodyPost_ret (results_tmp_cell_tmp rfl _ _ (w.heap.size + 1 + 1) 30 #[.slice none 0 0] (0, 0) _ t (.bool true) rfl rfl rfl (same_blk (L5.rs HL7.out) rfl) Tryz.underlying30 rfl (by kernel_rfl)) rfl ⟨.slice (some ⟨g, 0, none⟩) (os.length + 2) cap, rfl, ⟨other_blk (kept_block HB7.out HDr.out) hdb, HD5.out.2.1, _, _, owns_chg hrow7 (Chg.set _ _ _) (fun k hk e => hgz (by simp only [Value.ownBlock, Option.some.injEq] at hk; rw [hk]; exact e))⟩, ?_⟩
        refine ⟨(HBr.out.trans (HB7.out.mono (by have := HBr.out.size; omega))).setCell (by show base ≤ w.heap.size + 1 + 1; omega) _, ?_⟩
        have hA := HC5.out
        have hB := HCk.out
        have hC := HB7.out
        refine ⟨hC.os.trans (hB.os.trans hA.os), hC.tape.trans (hB.tape.trans hA.tape), hC.output.trans (hB.output.trans hA.output), ?_, fun j hj hn => ?_⟩
        · have h1 := hA.size
          have h2 := hB.size
          have h3 := hC.size
          simp
          omega
        · have hgj : ¬ j = g := fun e => by
            rcases HG2.out with h | h
            · exact hn (.inr (by rw [e]; exact h))
            · omega
          have h1 := hA.size
          have h2 := hB.size
          rw [Below.heap_setCell _ _ _ j (by show j ≠ w.heap.size + 1 + 1; omega), hC.block j (by omega), hB.block j (by omega) hgj, hA.block j hj hn]
end Go.Proofs.YtfjklpgnlkgfoaaGreatDoor
