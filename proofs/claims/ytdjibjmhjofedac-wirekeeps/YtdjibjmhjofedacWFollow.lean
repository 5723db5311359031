/-
  follows.
-/
import Derived.Test.YtdjibjmhjofedacWFollow1
namespace Go.Proofs.Ytdjibjmhjofedac
open Go.RowKit
set_option linter.unusedVariables false

theorem dec_count (xs : List Int) : (dec xs).1.length ≤ xs.length ∧ (dec xs).2.1 ≤ xs.length := by
  induction h : xs.length using Nat.strongRecOn generalizing xs with
  | _ n ih =>
    rcases fcode_cases xs with h0 | h1 | h2
    · have hl := (fcode_ok h0).2.1
      have := ih _ (by rw [← h, List.length_drop]; omega) (xs.drop (14 + w4 xs 2)) rfl
      rw [List.length_drop] at this
      rw [dec_body h0]
      have e1 := this.1
      have e2 := this.2
      refine ⟨?_, ?_⟩
      · show (List.length _) + 1 ≤ n
        refine Nat.le_trans (Nat.succ_le_succ e1) ?_
        omega
      · refine Nat.le_trans e2 ?_
        omega
    · rw [dec_stop h1]; exact ⟨Nat.zero_le _, Nat.zero_le _⟩
    · have hp : 0 < xs.length := List.length_pos_iff.2 (by rintro rfl; cases h2)
      have := ih _ (by rw [← h, List.length_drop]; omega) (xs.drop 1) rfl
      rw [List.length_drop] at this
      rw [dec_skip h2]
      have e1 := this.1
      have e2 := this.2
      refine ⟨Nat.le_trans e1 (by omega), ?_⟩
      refine Nat.le_trans (Nat.succ_le_succ e2) ?_
      omega

/-- What the loop of follows reads. -/
theorem follow_reads {w w2 w3 : World} {sb sk k m : Nat} {rv fv fv3 lv wv : Value} {xs : List Int} {fs gs : List (Value × List Int)} {most : Int} {D : List (List Int)} (h0 : St w2 sb rv fv xs fs sk) (hlt : ∀ p ∈ fs, ∀ b, p.1.ownBlock = some b → b < w.heap.size) (hT : Tk w2 sb rv fv xs fs sk most k k lv fv3 w3)
    (hk : k ≤ fs.length) (hgs : gs.map (·.2) = D) (hD : D.drop m = fs.map (·.2)) (hw : w3.ownsRow w.heap.size 26 1 wv gs.length (gs.map (·.1))) (hg : ∀ p ∈ gs, w3.ownsRow w.heap.size 5 1 p.1 p.2.length (bv p.2)) (q : Nat) (p : Value × List Int) (hp : (fs.take k)[q]? = some p) :
    ∃ lg lc wg wc pa pc ga gc, lv = .slice (some ⟨lg, 0, none⟩) k lc ∧ wv = .slice (some ⟨wg, 0, none⟩) gs.length wc ∧ p.1 = .slice pa p.2.length pc ∧ m + q < gs.length ∧ ∀ W, Fr (BodyB (fs.take k)) w3 W → W.cell? ⟨lg, q, none⟩ = some (.slice pa p.2.length pc) ∧ W.cell? ⟨wg, m + q, none⟩ = some (.slice ga p.2.length gc) ∧ Bys W ga p.2 := by
  have hq : q < k := by have := (List.getElem?_eq_some_iff.1 hp).1; rw [List.length_take] at this; omega
  have hpf : fs[q]? = some p := by rw [List.getElem?_take, if_pos hq] at hp; exact hp
  have hpm : p ∈ fs.take k := List.mem_of_getElem? hp
  have no5 : ∀ {v : Value} {n base : Nat} {vals : List Value}, w3.ownsRow base 26 1 v n vals → ∀ b, v.ownBlock = some b → ¬ BodyB (fs.take k) b := by
    rintro v n base vals hv b hb ⟨r, hr, e⟩
    obtain ⟨_, _, cur, hc⟩ := owns_kind hv b hb
    obtain ⟨_, _, cur', hc'⟩ := owns_kind (hT.each r hr) b e
    rw [hc] at hc'; cases hc'
  obtain ⟨pa, pc, hpv, _⟩ := bys_of_owns (hT.each p hpm)
  have hDq : D[m + q]? = some p.2 := by
    have h1 : (D.drop m)[q]? = (fs.map (·.2))[q]? := by rw [hD]
    rw [List.getElem?_drop, List.getElem?_map, hpf] at h1
    exact h1
  obtain ⟨r, hr, hr2⟩ : ∃ r, gs[m + q]? = some r ∧ r.2 = p.2 := by
    rw [← hgs, List.getElem?_map] at hDq
    cases hgq : gs[m + q]? with
    | none => rw [hgq] at hDq; cases hDq
    | some r => rw [hgq] at hDq; exact ⟨r, rfl, Option.some.inj hDq⟩
  have hrl : m + q < gs.length := (List.getElem?_eq_some_iff.1 hr).1
  have hrm := List.mem_of_getElem? hr
  have hgr := hg r hrm
  rw [hr2] at hgr
  obtain ⟨ga, gc, hgv, _⟩ := bys_of_owns hgr
  have nog : ∀ b, r.1.ownBlock = some b → ¬ BodyB (fs.take k) b := by
    rintro b hb ⟨s, hs, e⟩
    have h1 := (owns_kind hgr b hb).2.1
    have h2 := hlt s (List.mem_of_mem_take hs) b e
    omega
  rcases hT.row.2 with ⟨_, h⟩ | ⟨lg, lc, lcur, hlv, _, hlg, _, _, _, hlt'⟩
  · omega
  · rcases hw.2 with ⟨_, h⟩ | ⟨wg, wc, wcur, hwv, _, hwg, _, _, _, hwt⟩
    · omega
    · refine ⟨lg, lc, wg, wc, pa, pc, ga, gc, hlv, hwv, hpv, hrl, fun W hf => ⟨?_, ?_, ?_⟩⟩
      · have h1 := (hf.block lg (lt_of_blk hlg) (no5 hT.row lg (by rw [hlv]; rfl))).trans hlg
        rw [cell_blk h1, ← Array.getElem?_toList]
        have h2 : (lcur.toList.take (k * 1))[q]? = some p.1 := by rw [hlt', List.getElem?_map, hp]; rfl
        rw [List.getElem?_take, if_pos (by omega)] at h2
        rw [h2, hpv]
      · have h1 := (hf.block wg (lt_of_blk hwg) (no5 hw wg (by rw [hwv]; rfl))).trans hwg
        rw [cell_blk h1, ← Array.getElem?_toList]
        have h2 : (wcur.toList.take (gs.length * 1))[m + q]? = some r.1 := by rw [hwt, List.getElem?_map, hr]; rfl
        rw [List.getElem?_take, if_pos (by omega)] at h2
        rw [h2, hgv]
      · have h1 := owns_fr hgr hf nog
        obtain ⟨ga', gc', hgv', hb', _⟩ := bys_of_owns h1
        rw [hgv] at hgv'
        obtain ⟨rfl, -, rfl⟩ := Value.slice.inj hgv'
        exact hb'

set_option maxHeartbeats 12800000 in
set_option maxRecDepth 100000 in
theorem follows_any (sb m cf : Nat) (af : Option Addr) (rv fv : Value) (fs : List (Value × List Int)) (ps : List Pc) (most : Int) (w : World) (hp : Pcs w af ps) (hl : (bodyOf ps).length ≤ 20000) (hk : ps.length ≤ 24) (hq : StQ w sb rv fv (bodyOf ps) m fs) (hmost : -9223372036854775808 ≤ most ∧ most ≤ 9223372036854775807) :
    Calls Try.prog 21 #[.pointer (some ⟨sb, 0, none⟩), .slice af ps.length cf, .int .i64 m, .int .i64 most] w fun e w' => ∃ k fv', e = .returned (.tuple #[.int .i64 ((m + k : Nat) : Int), .bool true]) ∧ StQ w' sb rv fv' (bodyOf ps) (m + k) (fs.drop k) ∧ Fr (fun b => b = sb ∨ fv.ownBlock = some b ∨ BodyB fs b) w w' ∧ (∀ b, fv'.ownBlock = some b → fv.ownBlock = some b) ∧ k ≤ fs.length ∧ ((k : Int) < most → k = fs.length) := by
  have hcnt := dec_count (bodyOf ps)
  have hlen : fs.length + m = (dec (bodyOf ps)).1.length := by
    have := congrArg List.length hq.all
    rw [List.length_drop, List.length_map] at this
    have := hq.le
    omega
  have HJ : Hid _ := joined_any af cf ps w hp (by omega) (by omega)
  have HBP : Hid (Byt (bodyOf ps)) := body_byt hp
  have HQ : Hid (StQ w sb rv fv (bodyOf ps) m fs) := hq
  obtain ⟨P, hP⟩ : ∃ P, P = bodyOf ps := ⟨_, rfl⟩
  rw [← hP] at HJ HBP HQ hcnt hlen hl
  rw [← hP]
  clear hp hq hP
  go_enter Try.func21, Try.ntmps21
  go_wp2_with fail
  refine Calls.mono HJ.out ?_
  rintro e w1 ⟨ja, jc, rfl, hjrow, hb1⟩
  obtain ⟨ja', jc', hjv, hjb, _, _, hjl, hjm⟩ := bys_of_owns hjrow
  obtain ⟨rfl, -, rfl⟩ := Value.slice.inj hjv
  have HSY : Hid _ := says_any ja jc P w1 hjb HBP.out hjl hjm (by omega)
  have HB1 : Hid (Below w.heap.size w w1) := hb1
  clear hjrow hjv hjb hjl hjm hb1 HJ
  go_wp2_with fail
  refine Calls.mono HSY.out ?_
  rintro e w2 ⟨wv, gs, rfl, hgb, hwrow, hweach, hb2⟩
  have HB2 : Hid (Below w.heap.size w w2) := trans2 HB1.out hb2
  have hst2 := HQ.out.st.below HB2.out
  have hgl : gs.length = fs.length + m := by have := congrArg List.length hgb; rw [List.length_map] at this; omega
  have HTA : Hid _ := taken_any sb _ rv fv _ fs most w2 hst2 (by omega)
  have HGB : Hid (gs.map (·.2) = (dec P).1) := hgb
  have HWR : Hid (w2.ownsRow w.heap.size 26 1 wv gs.length (gs.map (·.1))) := owns_base (owns_zero hwrow) (fun k hk => Nat.le_trans HB1.out.size (owns_kind hwrow k hk).2.1)
  have HWE : Hid (∀ p ∈ gs, w2.ownsRow w.heap.size 5 1 p.1 p.2.length (bv p.2)) := fun p hp => owns_base (owns_zero (hweach p hp)) (fun k hk => Nat.le_trans HB1.out.size (owns_kind (hweach p hp) k hk).2.1)
  have HS2 : Hid _ := hst2
  obtain ⟨wa, wn, wc, rfl⟩ := owns_slice hwrow
  obtain rfl : wn = gs.length := by
    rcases hwrow.2 with ⟨h, h2⟩ | ⟨_, _, _, h, _⟩
    · cases h; omega
    · cases h; rfl
  have HGL : Hid (gs.length = fs.length + m) := hgl
  have HLEN : Hid (fs.length + m = (dec P).1.length) := hlen
  clear hwrow hweach hb2 hst2 hgb HSY hgl hlen
  go_wp2_with fail
  refine Calls.mono HTA.out ?_
  rintro e w3 ⟨k, lv, fv3, rfl, hk1, hk2, hk3, hT⟩
  have HT : Hid _ := hT
  obtain ⟨la, ln, lc, rfl⟩ := owns_slice hT.row
  obtain rfl : k = ln := by
    rcases hT.row.2 with ⟨h, h2⟩ | ⟨_, _, _, h, _⟩
    · cases h; omega
    · cases h; rfl
  have hsk : w3.cell? ⟨sb, 2, none⟩ = some (.int .i64 ((dec P).2.1 : Nat)) := hT.st.c2
  have HRD : Hid _ := follow_reads (w := w) HS2.out (fun p hp b hb => HQ.out.st.lt_b p hp b hb) hT hk1 HGB.out HQ.out.all
    (owns_fr HWR.out hT.fr (fun b hb e => by
      obtain ⟨_, hbb, cur, hc⟩ := owns_kind HWR.out b hb
      rcases e with e | e
      · have := HQ.out.st.lt; omega
      · have := (HQ.out.st.fnd.lt b e).1; omega))
    (fun p hp => owns_fr (HWE.out p hp) hT.fr (fun b hb e => by
      obtain ⟨_, hbb, cur, hc⟩ := owns_kind (HWE.out p hp) b hb
      rcases e with e | e
      · have := HQ.out.st.lt; omega
      · have := (HQ.out.st.fnd.lt b e).1; omega))
  have HFI : Hid (FoI (fs.take k) w3 0 w3) := ⟨Fr.refl _ _, fun j p _ hp => HT.out.each p (List.mem_of_getElem? hp)⟩
  have HAP : Hid (ApartV ((fs.take k).map (·.1))) := by
    have ha := HS2.out.apart
    unfold ApartV at ha ⊢
    rw [List.pairwise_cons, ← List.take_append_drop k fs, List.map_append, List.pairwise_append] at ha
    exact ha.2.1
  have HEND : Hid (∀ W, Fr (BodyB (fs.take k)) w3 W → StQ W sb rv fv3 P (m + k) (fs.drop k) ∧ Fr (fun b => b = sb ∨ fv.ownBlock = some b ∨ BodyB fs b) w W ∧ (∀ b, fv3.ownBlock = some b → fv.ownBlock = some b)) := fun W hf => by
    refine ⟨⟨St.rest HS2.out HT.out.st HT.out.sub hf, by rw [← List.drop_drop, HQ.out.all, List.map_drop], by have := HLEN.out; omega⟩, ?_, HT.out.sub⟩
    refine ((Fr.of_below HB2.out _).trans HT.out.fr (fun b e => .inl ?_)).trans hf (fun b e => .inl ?_)
    · rcases e with e | e
      · exact .inl e
      · exact .inr (.inl e)
    · obtain ⟨p, hp, e⟩ := e
      exact .inr (.inr ⟨p, List.mem_of_mem_take hp, e⟩)
  clear hT HTA HWR HWE HGB HS2
  go_wp2_with fail
  refine Calls.mono (skipped_st sb _ w3 hsk) ?_
  rintro e w4 ⟨rfl, rfl⟩
  have hgl := HGL.out
  have hlen := HLEN.out
  rcases (show (fs.length : Int) ≤ most ∨ ((most < fs.length ∧ 0 ≤ most) ∨ most < 0) by omega) with hc | ⟨hc, hc2⟩ | hc
  · have hkc : (k : Int) ≤ most := by omega
    have hke : ((gs.length : Nat) : Int) - (m : Int) = (k : Int) := by omega
    have HKF : Hid (k ≤ fs.length ∧ ((k : Int) < most → k = fs.length)) := ⟨hk1, hk3⟩
    have hm20 : m + k ≤ 20000 := by omega
    have hg20 : gs.length ≤ 20000 := by omega
    clear hk1 hk2 hk3 hcnt hlen hgl hc
    go_wp2_with fail
    go_loopw [15] (fun i W => ∃ q : Nat, i = .int .i64 q ∧ q ≤ k ∧ Hid (FoI (fs.take k) w4 q W)) (fun i _ => k - (intOf i).toNat)
    case atStart => exact ⟨0, rfl, Nat.zero_le _, HFI⟩
    case round =>
      obtain ⟨q, rfl, hqk, HI⟩ := hrel
      by_cases hlt : q < k
      · obtain ⟨p, hp⟩ : ∃ p, (fs.take k)[q]? = some p := ⟨_, List.getElem?_eq_getElem (by have := HKF.out.1; rw [List.length_take]; omega)⟩
        obtain ⟨lg, lc', wg, wc', pa, pc, ga, gc, hlv, hwv, hpv, hmq, hR⟩ := HRD.out q p hp
        obtain ⟨rfl, -, rfl⟩ := Value.slice.inj hlv
        obtain ⟨rfl, -, rfl⟩ := Value.slice.inj hwv
        have HR : Hid _ := hR
        obtain ⟨hct, hcp, hgB⟩ := hR wr HI.out.fr
        obtain ⟨pa', pc', hpv', hpB, _, _, hpl, hpm⟩ := bys_of_owns (HI.out.rest q p (Nat.le_refl _) hp)
        rw [hpv] at hpv'
        obtain ⟨rfl, -, rfl⟩ := Value.slice.inj hpv'
        obtain ⟨pv, pys⟩ := p
        simp only at hpv hct hcp hgB hpB hpl hR
        have HU : Hid (∀ W, Below wr.heap.size wr W → Calls Try.prog 13 #[.slice pa pys.length pc, .slice ga pys.length gc] W fun e w' => e = .returned (.bool true) ∧ Below W.heap.size W w') := fun W hb => by
          have h := same_is (c := pc) (d := gc) (hpB.below hb) (hgB.below hb) (by omega)
          rw [decide_eq_true rfl] at h
          exact h
        have HP : Hid ((fs.take k)[q]? = some (pv, pys)) := hp
        have HPV : Hid (pv = .slice pa pys.length pc) := hpv
        have hltI : (q : Int) < (k : Int) := by omega
        obtain ⟨j, hj⟩ : ∃ j, j = m + q := ⟨_, rfl⟩
        have hsum : IntKind.i64.wrap ((m : Int) + (q : Int)) = (j : Int) := by rw [IntKind.wrap_i64]; omega
        have hjI : (j : Int) < (gs.length : Int) := by omega
        rw [← hj] at hcp
        clear hj hmq
        clear hp hpB hgB hR hlv hwv hpv hpv'
        go_wp2_with fail
        go_region_held3 (fun w' => w'.cell? ⟨lg, q, none⟩ = some (.slice pa pys.length pc) ∧ w'.cell? ⟨wg, j, none⟩ = some (.slice ga pys.length gc)) (first | go_keep | exact ⟨by assumption, by assumption⟩)
          (first | (go_at_call 13; refine (HU.out _ (Below.refl _ _).drew).mono ?_; rintro e w8 ⟨rfl, hb8⟩; have HB8 : Hid (Below wr.heap.size wr w8) := below_undrew hb8; have e1 := HB8.out.cell (p := ⟨lg, q, none⟩) (World.block_lt_of_cell? _ _ hct); have e2 := HB8.out.cell (p := ⟨wg, j, none⟩) (World.block_lt_of_cell? _ _ hcp); rw [hct] at e1; rw [hcp] at e2; clear hb8))
        have HI8 : Hid _ := HI.out.below HB8.out
        have HJ0 : Hid (FoJ (fs.take k) w4 q (pv, pys) w8) := HI8.out.at HP.out
        have hpy : pys.length ≤ 9223372036854775807 := by unfold maxLen at hpm; omega
        clear e2 HI8
        go_wp2_with fail
        go_loopw [16] (fun i W => ∃ r : Nat, i = .int .i64 r ∧ r ≤ pys.length ∧ Hid (FoJ (fs.take k) w4 q (pv, pys) W)) (fun i _ => pys.length - (intOf i).toNat)
        case atStart => exact ⟨0, rfl, Nat.zero_le _, HJ0⟩
        case round =>
          clear hct e1 hcp
          obtain ⟨r, rfl, hrk, HJ⟩ := hrel
          have hcl := (HR.out wr HJ.out.fr).1
          by_cases hrl : r < pys.length
          · obtain ⟨g, hg⟩ : ∃ g, pa = some ⟨g, 0, none⟩ := by
              obtain ⟨zs, hzl, hrow⟩ := HJ.out.mine
              rcases hrow.2 with ⟨h, h2⟩ | ⟨g, _, _, h, _⟩
              · simp only at h2; omega
              · rw [show ((pv, pys) : Value × List Int).1 = pv from rfl, HPV.out] at h; cases h; exact ⟨g, rfl⟩
            subst hg
            obtain ⟨hj1, hj2, hj3⟩ := HJ.out.write HAP.out HP.out HPV.out hrl
            obtain ⟨v, hv⟩ : ∃ v, wr.cell? ⟨g, r, none⟩ = some v := by
              cases h : wr.cell? ⟨g, r, none⟩ with
              | none => exact absurd h hj2
              | some v => exact ⟨v, rfl⟩
            have HJ1 : Hid _ := hj1
            have hrI : (r : Int) < (pys.length : Int) := by omega
            clear hj1 hj2
            go_wp2
            exact ⟨⟨r + 1, by go_num, by omega, HJ1⟩, by simp [intOf]; omega⟩
          · obtain rfl : r = pys.length := by omega
            go_wp2
            exact ⟨⟨q + 1, by go_num, by omega, HJ.out.next⟩, by simp [intOf]; omega⟩
      · obtain rfl : q = k := by omega
        go_wp2
        go_ret2
        obtain ⟨hz1, hz2, hz3⟩ := HEND.out _ HI.out.fr
        exact ⟨q, fv3, by go_num, hz1, hz2, hz3, HKF.out.1, HKF.out.2⟩
  · obtain rfl : most = (k : Int) := by omega
    obtain ⟨F, hF⟩ : ∃ F, F = fs.length := ⟨_, rfl⟩
    have hkc : (k : Int) < (F : Int) := by omega
    have hke : ((gs.length : Nat) : Int) - (m : Int) = (F : Int) := by omega
    have HKF : Hid (k ≤ fs.length ∧ ((k : Int) < (k : Int) → k = fs.length)) := ⟨hk1, hk3⟩
    have hm20 : m + k ≤ 20000 := by omega
    have hF20 : F ≤ 20000 := by omega
    have hjF : m + k < gs.length := by omega
    have hg20 : gs.length ≤ 20000 := by omega
    clear hk1 hk2 hk3 hcnt hlen hgl hc hc2 hF
    go_wp2_with fail
    go_loopw [15] (fun i W => ∃ q : Nat, i = .int .i64 q ∧ q ≤ k ∧ Hid (FoI (fs.take k) w4 q W)) (fun i _ => k - (intOf i).toNat)
    case atStart => exact ⟨0, rfl, Nat.zero_le _, HFI⟩
    case round =>
      obtain ⟨q, rfl, hqk, HI⟩ := hrel
      by_cases hlt : q < k
      · obtain ⟨p, hp⟩ : ∃ p, (fs.take k)[q]? = some p := ⟨_, List.getElem?_eq_getElem (by have := HKF.out.1; rw [List.length_take]; omega)⟩
        obtain ⟨lg, lc', wg, wc', pa, pc, ga, gc, hlv, hwv, hpv, hmq, hR⟩ := HRD.out q p hp
        obtain ⟨rfl, -, rfl⟩ := Value.slice.inj hlv
        obtain ⟨rfl, -, rfl⟩ := Value.slice.inj hwv
        have HR : Hid _ := hR
        obtain ⟨hct, hcp, hgB⟩ := hR wr HI.out.fr
        obtain ⟨pa', pc', hpv', hpB, _, _, hpl, hpm⟩ := bys_of_owns (HI.out.rest q p (Nat.le_refl _) hp)
        rw [hpv] at hpv'
        obtain ⟨rfl, -, rfl⟩ := Value.slice.inj hpv'
        obtain ⟨pv, pys⟩ := p
        simp only at hpv hct hcp hgB hpB hpl hR
        have HU : Hid (∀ W, Below wr.heap.size wr W → Calls Try.prog 13 #[.slice pa pys.length pc, .slice ga pys.length gc] W fun e w' => e = .returned (.bool true) ∧ Below W.heap.size W w') := fun W hb => by
          have h := same_is (c := pc) (d := gc) (hpB.below hb) (hgB.below hb) (by omega)
          rw [decide_eq_true rfl] at h
          exact h
        have HP : Hid ((fs.take k)[q]? = some (pv, pys)) := hp
        have HPV : Hid (pv = .slice pa pys.length pc) := hpv
        have hltI : (q : Int) < (k : Int) := by omega
        obtain ⟨j, hj⟩ : ∃ j, j = m + q := ⟨_, rfl⟩
        have hsum : IntKind.i64.wrap ((m : Int) + (q : Int)) = (j : Int) := by rw [IntKind.wrap_i64]; omega
        have hjI : (j : Int) < (gs.length : Int) := by omega
        rw [← hj] at hcp
        clear hj hmq
        clear hp hpB hgB hR hlv hwv hpv hpv'
        go_wp2_with fail
        go_region_held3 (fun w' => w'.cell? ⟨lg, q, none⟩ = some (.slice pa pys.length pc) ∧ w'.cell? ⟨wg, j, none⟩ = some (.slice ga pys.length gc)) (first | go_keep | exact ⟨by assumption, by assumption⟩)
          (first | (go_at_call 13; refine (HU.out _ (Below.refl _ _).drew).mono ?_; rintro e w8 ⟨rfl, hb8⟩; have HB8 : Hid (Below wr.heap.size wr w8) := below_undrew hb8; have e1 := HB8.out.cell (p := ⟨lg, q, none⟩) (World.block_lt_of_cell? _ _ hct); have e2 := HB8.out.cell (p := ⟨wg, j, none⟩) (World.block_lt_of_cell? _ _ hcp); rw [hct] at e1; rw [hcp] at e2; clear hb8))
        have HI8 : Hid _ := HI.out.below HB8.out
        have HJ0 : Hid (FoJ (fs.take k) w4 q (pv, pys) w8) := HI8.out.at HP.out
        have hpy : pys.length ≤ 9223372036854775807 := by unfold maxLen at hpm; omega
        clear e2 HI8
        go_wp2_with fail
        go_loopw [16] (fun i W => ∃ r : Nat, i = .int .i64 r ∧ r ≤ pys.length ∧ Hid (FoJ (fs.take k) w4 q (pv, pys) W)) (fun i _ => pys.length - (intOf i).toNat)
        case atStart => exact ⟨0, rfl, Nat.zero_le _, HJ0⟩
        case round =>
          clear hct e1 hcp
          obtain ⟨r, rfl, hrk, HJ⟩ := hrel
          have hcl := (HR.out wr HJ.out.fr).1
          by_cases hrl : r < pys.length
          · obtain ⟨g, hg⟩ : ∃ g, pa = some ⟨g, 0, none⟩ := by
              obtain ⟨zs, hzl, hrow⟩ := HJ.out.mine
              rcases hrow.2 with ⟨h, h2⟩ | ⟨g, _, _, h, _⟩
              · simp only at h2; omega
              · rw [show ((pv, pys) : Value × List Int).1 = pv from rfl, HPV.out] at h; cases h; exact ⟨g, rfl⟩
            subst hg
            obtain ⟨hj1, hj2, hj3⟩ := HJ.out.write HAP.out HP.out HPV.out hrl
            obtain ⟨v, hv⟩ : ∃ v, wr.cell? ⟨g, r, none⟩ = some v := by
              cases h : wr.cell? ⟨g, r, none⟩ with
              | none => exact absurd h hj2
              | some v => exact ⟨v, rfl⟩
            have HJ1 : Hid _ := hj1
            have hrI : (r : Int) < (pys.length : Int) := by omega
            clear hj1 hj2
            go_wp2
            exact ⟨⟨r + 1, by go_num, by omega, HJ1⟩, by simp [intOf]; omega⟩
          · obtain rfl : r = pys.length := by omega
            go_wp2
            exact ⟨⟨q + 1, by go_num, by omega, HJ.out.next⟩, by simp [intOf]; omega⟩
      · obtain rfl : q = k := by omega
        go_wp2
        go_ret2
        obtain ⟨hz1, hz2, hz3⟩ := HEND.out _ HI.out.fr
        exact ⟨q, fv3, by go_num, hz1, hz2, hz3, HKF.out.1, HKF.out.2⟩
  · obtain rfl : k = 0 := by omega
    obtain ⟨F, hF⟩ : ∃ F, F = fs.length := ⟨_, rfl⟩
    have hkc : most < (F : Int) := by omega
    have hke : ((gs.length : Nat) : Int) - (m : Int) = (F : Int) := by omega
    have HKF : Hid (0 ≤ fs.length ∧ (((0 : Nat) : Int) < most → 0 = fs.length)) := ⟨hk1, hk3⟩
    have hm20 : m ≤ 20000 := by omega
    have hF20 : F ≤ 20000 := by omega
    have hg20 : gs.length ≤ 20000 := by omega
    clear hk1 hk2 hk3 hcnt hlen hgl hF
    go_wp2_with fail
    go_loopw [15] (fun i W => i = .int .i64 0 ∧ Hid (FoI (fs.take 0) w4 0 W)) (fun i _ => 0)
    case atStart => exact ⟨rfl, HFI⟩
    case round =>
      obtain ⟨rfl, HI⟩ := hrel
      go_wp2
      go_ret2
      obtain ⟨hz1, hz2, hz3⟩ := HEND.out _ HI.out.fr
      exact ⟨0, fv3, by go_num, hz1, hz2, hz3, HKF.out.1, HKF.out.2⟩
end Go.Proofs.Ytdjibjmhjofedac
