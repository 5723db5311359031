/-
  stained by a contract.
-/
import Derived.Test.YtdjibjmhjofedacWStain2
import Derived.Deep.RegionHeld3
namespace Go.Proofs.Ytdjibjmhjofedac
open Go.RowKit
set_option linter.unusedVariables false

/-- Which marks list j has. -/
def wayN (way : Nat) (j : Nat) : Nat := if way = 1 then j / 241 else j

theorem cell_far {w : World} {g p b k : Nat} {u v : Value} (h : b ≠ g) (hc : w.cell? ⟨b, k, none⟩ = some u) : (w.setCell ⟨g, p, none⟩ v).cell? ⟨b, k, none⟩ = some u := by
  rw [World.cell?_of_block (w := w) (Below.heap_setCell w ⟨g, p, none⟩ v b h)]
  exact hc

theorem row_cell {W : World} {b n c p base : Nat} {zs : List Int} {x : Int} (h : W.ownsRow base 5 1 (.slice (some ⟨b, 0, none⟩) n c) n (bv zs)) (hx : zs[p]? = some x) : W.cell? ⟨b, p, none⟩ = some (.int .u8 x) ∧ b < W.heap.size := by
  rcases h.2 with ⟨h1, _⟩ | ⟨g', cap', cur, h1, _, hg, h3, h4, h5, ht⟩
  · cases h1
  · cases h1
    refine ⟨?_, lt_of_blk hg⟩
    have hl : p < n := by have := (List.getElem?_eq_some_iff.1 hx).1; have := h.1; rw [bv_len] at this; omega
    have h2 : (cur.toList.take (n * 1))[p]? = some (.int .u8 x) := by rw [ht]; unfold bv; rw [List.getElem?_map, hx]; rfl
    rw [List.getElem?_take, if_pos (by omega)] at h2
    rw [cell_blk hg, ← Array.getElem?_toList]
    exact h2

/-- Between two rounds of the first loop. -/
structure SA (w : World) (N : Nat → Nat) (g : Nat) (es : List En) (gv : Nat → Value) (q : Nat) (W : World) : Prop where
  fr : Fr (LB es) w W
  bk : Bk W g es gv
  wr : Wrt N es q W
structure SAk (w : World) (N : Nat → Nat) (g : Nat) (es : List En) (gv : Nat → Value) (q p : Nat) (e : En) (W : World) : Prop where
  fr : Fr (LB es) w W
  bk : Bk W g es gv
  wr : Wrk N es q p e W

theorem lb_ne {w : World} {g : Nat} {es : List En} {gv : Nat → Value} {W : World} (hb : Bk W g es gv) (hw : ∀ (j : Nat) (e : En), es[j]? = some e → ∃ zs : List Int, W.ownsRow 0 5 1 e.1 e.2.1 (bv zs)) : ¬ LB es g := by
  rintro ⟨e, he, hk⟩
  obtain ⟨j, hj⟩ := List.getElem?_of_mem he
  obtain ⟨zs, h⟩ := hw j e hj
  exact hb.ne h hk

theorem SAk.step {w W : World} {N : Nat → Nat} {g q p b cap : Nat} {es : List En} {gv : Nat → Value} {e : En} (h : SAk w N g es gv q p e W) (ha : Ap es) (he : es[q]? = some e) (hv : e.1 = .slice (some ⟨b, 0, none⟩) e.2.1 cap) (hp : p < e.2.1) : SAk w N g es gv q (p + 1) e (W.setCell ⟨b, p, none⟩ (.int .u8 (stainV (N q) p))) := by
  have hm : LB es b := ⟨e, List.mem_of_getElem? he, by rw [hv]; rfl⟩
  have hng : ¬ g = b := fun e' => by
    obtain ⟨zs, _, h2, _⟩ := h.wr.mine
    exact h.bk.ne h2 (by rw [hv, e']; rfl)
  exact ⟨h.fr.trans (Fr.of_setCell W ⟨b, p, none⟩ _) (fun k e' => .inl (by rw [show k = b from e']; exact hm)), h.bk.fr (Fr.of_setCell W ⟨b, p, none⟩ _) hng, h.wr.step ha he hv hp⟩
theorem SAk.drew {w W : World} {N : Nat → Nat} {g q p : Nat} {es : List En} {gv : Nat → Value} {e : En} (h : SAk w N g es gv q p e W) (he : es[q]? = some e) : SAk w N g es gv q p e W.drew := by
  have hf : Fr (fun _ => False) W W.drew := ⟨rfl, rfl, rfl, Nat.le_refl _, fun _ _ _ => rfl⟩
  exact ⟨h.fr.trans hf (fun _ e => e.elim), h.bk.fr hf (fun e => e), h.wr.fr hf (fun _ _ e => e) he⟩
theorem row_form {W : World} {v : Value} {n base : Nat} {vals : List Value} (h : W.ownsRow base 5 1 v n vals) : ∃ a c, v = .slice a n c ∧ n ≤ c := by
  rcases h.2 with ⟨h1, h2⟩ | ⟨g', cap', cur, h1, _, _, h3, _⟩
  · exact ⟨none, 0, by rw [h1, h2], by omega⟩
  · exact ⟨_, _, h1, h3⟩
theorem row_some {W : World} {a : Option Addr} {n c base m : Nat} {vals : List Value} (h : W.ownsRow base 5 1 (.slice a n c) m vals) (hn : 0 < m) : ∃ b, a = some ⟨b, 0, none⟩ := by
  rcases h.2 with ⟨h1, h2⟩ | ⟨g', cap', cur, h1, _⟩
  · omega
  · simp only [Value.slice.injEq] at h1
    exact ⟨g', h1.1⟩

set_option maxHeartbeats 16000000 in
set_option maxRecDepth 100000 in
theorem stained_0 (g cap : Nat) (es : List En) (gv : Nat → Value) (w : World) (hb : Bk w g es gv) (ha : Ap es) (hw : ∀ (j : Nat) (e : En), es[j]? = some e → (∃ zs : List Int, zs.length = e.2.1 ∧ w.ownsRow 0 5 1 e.1 e.2.1 (bv zs)) ∧ e.2.1 ≤ 100000) (hn : es.length ≤ 1000) (hc : es.length ≤ cap) :
    Calls Try.prog 19 #[.slice (some ⟨g, 0, none⟩) es.length cap, .int .i64 0] w fun e w' => e = .returned (.bool true) ∧ ∃ gv', Bk w' g es gv' ∧ Fr (fun b => b = g ∨ LB es b) w w' ∧ (∀ (j : Nat) (e : En), es[j]? = some e → ∃ zs : List Int, zs.length = e.2.1 ∧ w'.ownsRow 0 5 1 e.1 e.2.1 (bv zs)) := by
  have HBK : Hid (Bk w g es gv) := hb
  have HAP : Hid (Ap es) := ha
  have HW : Hid (∀ (j : Nat) (e : En), es[j]? = some e → (∃ zs : List Int, zs.length = e.2.1 ∧ w.ownsRow 0 5 1 e.1 e.2.1 (bv zs)) ∧ e.2.1 ≤ 100000) := hw
  obtain ⟨N, hN⟩ : ∃ N : Nat → Nat, N = fun q => q := ⟨_, rfl⟩
  have HNN : Hid (∀ q, N q = q) := fun q => by rw [hN]
  clear hb ha hw hN
  obtain ⟨i5, hi5, hy0, hy1, hy2⟩ := info_parts Try.info5
  go_enter Try.func19, Try.ntmps19
  go_wp2
  go_loopw [5] (fun j wr => ∃ q : Nat, j = .int .i64 q ∧ q ≤ es.length ∧ Hid (SA w N g es gv q wr)) (fun j _ => es.length - (intOf j).toNat)
  case atStart => exact ⟨0, rfl, Nat.zero_le _, ⟨Fr.refl _ _, HBK.out, fun j e he => by obtain ⟨⟨zs, h1, h2⟩, _⟩ := HW.out j e he; exact ⟨zs, h1, h2, fun h => by omega⟩⟩⟩
  case round =>
    obtain ⟨q, rfl, hq, HS⟩ := hrel
    by_cases hlt : q < es.length
    · obtain ⟨e, he⟩ : ∃ e, es[q]? = some e := ⟨es[q], List.getElem?_eq_getElem hlt⟩
      obtain ⟨zs, hz1, hz2, _⟩ := HS.out.wr q e he
      obtain ⟨la, lc, hlv, hlc⟩ := row_form hz2
      have hel : e.2.1 ≤ 100000 := (HW.out q e he).2
      obtain ⟨ln, hln⟩ : ∃ ln, ln = e.2.1 := ⟨_, rfl⟩
      have HLN : Hid (ln = e.2.1) := hln
      have HLV : Hid (e.1 = .slice la ln lc) := by rw [hln]; exact hlv
      have HSK : Hid (SAk w N g es gv q 0 e wr) := ⟨HS.out.fr, HS.out.bk, HS.out.wr.begin he⟩
      have HE : Hid (es[q]? = some e) := he
      have hcell : wr.cell? ⟨g, q * 3, none⟩ = some (.slice la ln lc) := by rw [(HS.out.bk.at he).1, HLV.out]
      have hlt' : (q : Int) < (es.length : Int) := by omega
      rw [← hln] at hel
      clear HS he hz1 hz2 hlv hln hlc
      have HSTN : Hid (∀ (p : Nat) (W : World), p ≤ 100000 → Calls Try.prog 35 #[.int .i64 ((q : Nat) : Int), .int .i64 p] W fun e w' => e = .returned (.int .u8 (stainV (N q) p)) ∧ w' = W) := fun p W hp => by
        rw [HNN.out q]
        exact stain_any _ p W (by omega) (by omega)
      go_wp2
      go_loopw [7] (fun k wr => ∃ p : Nat, k = .int .i64 p ∧ p ≤ ln ∧ Hid (SAk w N g es gv q p e wr)) (fun k _ => ln - (intOf k).toNat)
      case atStart => exact ⟨0, rfl, Nat.zero_le _, HSK.out⟩
      case round =>
        clear hcell HSK
        obtain ⟨p, rfl, hp, HSP⟩ := hrel
        have hcell : wr.cell? ⟨g, q * 3, none⟩ = some (.slice la ln lc) := by rw [(HSP.out.bk.at HE.out).1, HLV.out]
        by_cases hltp : p < ln
        · obtain ⟨zs, hz1, hz2, _⟩ := HSP.out.wr.mine
          rw [HLV.out, ← HLN.out] at hz2
          rw [← HLN.out] at hz1
          obtain ⟨b, rfl⟩ := row_some hz2 (by omega)
          have hgb : g ≠ b := fun e' => HSP.out.bk.ne hz2 (by rw [e']; rfl)
          obtain ⟨cur, hcur, hcs⟩ : ∃ cur, wr.heap[b]? = some (.cells cur 5 (0, 0)) ∧ ln ≤ cur.size := by
            rcases hz2.2 with ⟨h0, _⟩ | ⟨g', cap', cur, h0, _, hg, h1, h2, h3, _⟩
            · cases h0
            · cases h0; exact ⟨cur, hg, by omega⟩
          obtain ⟨u0, hbp⟩ : ∃ u, wr.cell? ⟨b, p, none⟩ = some u := ⟨cur[p]'(by omega), by rw [cell_blk hcur, Array.getElem?_eq_getElem]⟩
          have hbf : wr.frozen? ⟨b, p, none⟩ = false := frozen_blk hcur p
          have hltp' : (p : Int) < (ln : Int) := by omega
          have HNX : Hid (SAk w N g es gv q (p + 1) e (wr.drew.setCell ⟨b, p, none⟩ (.int .u8 (stainV (N q) p)))) := (HSP.out.drew HE.out).step HAP.out HE.out (by rw [HLV.out, HLN.out]) (by rw [← HLN.out]; exact hltp)
          have hk2 : (wr.setCell ⟨b, p, none⟩ (.int .u8 (stainV (N q) p))).drew.cell? ⟨g, q * 3, none⟩ = some (.slice (some ⟨b, 0, none⟩) ln lc) := by
            show (wr.setCell ⟨b, p, none⟩ (.int .u8 (stainV (N q) p))).cell? ⟨g, q * 3, none⟩ = _
            exact cell_far hgb hcell
          clear hz1 hz2 hcur hcs
          go_wp2
          go_region_held3 (fun w' => w'.cell? ⟨g, q * 3, none⟩ = some (.slice (some ⟨b, 0, none⟩) ln lc)) (first | exact hk2 | go_keep) (first | (go_at_call 35; refine (HSTN.out p _ (by omega)).mono ?_; rintro e w1 ⟨rfl, rfl⟩))
          go_wp2
          go_roundw
          case rel => exact ⟨p + 1, by go_num, by omega, HNX⟩
          case measure => simp [intOf]; omega
        · obtain rfl : p = ln := by omega
          have HE2 : Hid (SA w N g es gv (q + 1) wr) := ⟨HSP.out.fr, HSP.out.bk, by have h := HSP.out.wr; rw [HLN.out] at h; exact h.ended HE.out⟩
          go_wp2
          go_roundw
          case rel => exact ⟨q + 1, by go_num, by omega, HE2⟩
          case measure => simp [intOf]; omega
    · obtain rfl : q = es.length := by omega
      clear hlt hq
      go_wp2
      obtain ⟨WB, hWB⟩ : ∃ WB, WB = wr := ⟨_, rfl⟩
      have HG0 : Hid (Grn WB N g es 0 gv wr) := by rw [hWB]; exact Grn.start HS.out.bk HS.out.wr
      have HFA : Hid (Fr (LB es) w WB) := by rw [hWB]; exact HS.out.fr
      have HLB : Hid (∀ b, LB es b → b < WB.heap.size) := by
        rintro b ⟨e, he, hk⟩
        obtain ⟨j, hj⟩ := List.getElem?_of_mem he
        obtain ⟨zs, _, h2, _⟩ := HS.out.wr j e hj
        rw [hWB]
        exact (owns_kind h2 b hk).1
      clear HS hWB
      go_loopw [8] (fun j wr => ∃ (q : Nat) (gv2 : Nat → Value), j = .int .i64 q ∧ q ≤ es.length ∧ Hid (Grn WB N g es q gv2 wr)) (fun j _ => es.length - (intOf j).toNat)
      case atStart => exact ⟨0, gv, rfl, Nat.zero_le _, HG0⟩
      case round =>
        clear HG0
        obtain ⟨q, gv2, rfl, hq, HGN⟩ := hrel
        by_cases hlt : q < es.length
        · obtain ⟨e, he⟩ : ∃ e, es[q]? = some e := ⟨es[q], List.getElem?_eq_getElem hlt⟩
          obtain ⟨la, lc, hlv, hlc⟩ := row_form (HGN.out.ls q e he)
          have hel : e.2.1 ≤ 100000 := (HW.out q e he).2
          obtain ⟨ln, hln⟩ : ∃ ln, ln = e.2.1 := ⟨_, rfl⟩
          have HLN : Hid (ln = e.2.1) := hln
          have HLV : Hid (e.1 = .slice la ln lc) := by rw [hln]; exact hlv
          have HE : Hid (es[q]? = some e) := he
          have HGK : Hid (Grk wr e (stains (N q) e.2.1) (tailV q) 0 (.slice la ln lc) wr) := by rw [← HLV.out]; exact HGN.out.begin he
          have hcell : wr.cell? ⟨g, q * 3, none⟩ = some (.slice la ln lc) := by rw [(HGN.out.bk.at he).1, HLV.out]
          have hlt' : (q : Int) < (es.length : Int) := by omega
          have HOLD : Hid (∀ k, e.1.ownBlock = some k → k < wr.heap.size) := fun k hk => (owns_kind (HGN.out.ls q e he) k hk).1
          rw [← hln] at hel
          clear he hlv hln hlc
          obtain ⟨Wq, hWq⟩ : ∃ Wq, Wq = wr := ⟨_, rfl⟩
          have HGN2 : Hid (Grn WB N g es q gv2 Wq) := by rw [hWq]; exact HGN.out
          have HOLD2 : Hid (∀ k, e.1.ownBlock = some k → k < Wq.heap.size) := by rw [hWq]; exact HOLD.out
          have HGK2 : Hid (Grk Wq e (stains (N q) e.2.1) (tailV q) 0 (.slice la ln lc) wr) := by rw [hWq]; exact HGK.out
          clear HGN HOLD HGK hWq
          go_wp2
          go_loopw [9, 10] (fun gval k wr => ∃ p : Nat, k = .int .i64 p ∧ p ≤ 96 ∧ Hid (Grk Wq e (stains (N q) e.2.1) (tailV q) p gval wr)) (fun _ k _ => 96 - (intOf k).toNat)
          case atStart => exact ⟨0, rfl, by omega, HGK2⟩
          case round =>
            clear hcell HGK2
            obtain ⟨p, rfl, hp, HGP⟩ := hrel
            by_cases hltp : p < 96
            · have hltp' : (p : Int) < 96 := by omega
              obtain ⟨ga, gc, hgv, _⟩ := row_form HGP.out.row
              rw [← HLN.out] at hgv
              subst hgv
              have HRW : Hid ((wr.alloc (.cells #[.int .u8 (242 + (q : Int) % 13)] 5)).ownsRow 0 5 1 (.slice ga (ln + p) gc) (ln + p) (bv (stains (N q) ln ++ List.replicate p (tailV q)))) := by
                have h := HGP.out.row
                rw [← HLN.out] at h
                exact h.alloc _
              go_wp2_with (first | (at_builtin; refine wpList_append_rows _ rfl _ _ 26 rfl 5 i5 (.int .u8 0) 1 Try.underlying26 hi5 hy0 hy1 hy2 rfl (.slice ga (ln + p) gc) (ln + p) (bv (stains (N q) ln ++ List.replicate p (tailV q))) rfl HRW.out ⟨wr.heap.size, 0, none⟩ 1 1 [.int .u8 (242 + (q : Int) % 13)] rfl rfl (cell_one_new _ _ _) (fun x hx => by simp at hx; subst hx; rfl) (by omega) (by unfold maxLen; omega) (by omega) ?_) | fail)
              intro g' cap' w2 hown2 halt2
              rw [show (242 : Int) + (q : Int) % 13 = tailV q by unfold tailV; omega] at hown2
              have HNX : Hid (Grk Wq e (stains (N q) e.2.1) (tailV q) (p + 1) (.slice (some ⟨g', 0, none⟩) (ln + p + 1) cap') w2) := by
                have h1 := HLN.out
                subst h1
                exact Grk.next HGP.out (stains_len _ _) HOLD2.out hown2 (halt2.imp (fun h => ⟨by rw [h.1.1, h.1.2], h.2⟩) (fun h => ⟨by rw [World.size_alloc]; exact h.1, h.2⟩))
              clear hown2 halt2 HRW
              go_wp2
              go_roundw
              case rel => exact ⟨p + 1, by go_num, by omega, HNX⟩
              case measure => simp [intOf]; omega
            · obtain rfl : p = 96 := by omega
              have HNB : Hid (Grn WB N g es (q + 1) (fun j => if j = q then u9 else gv2 j) (wr.setCell ⟨g, q * 3 + 2, none⟩ u9)) := HGN2.out.next HAP.out HE.out HLB.out HGP.out
              have hbk : Bk wr g es gv2 := HGN2.out.bk.fr HGP.out.fr (HGN2.out.bk.ne (HGN2.out.ls q e HE.out))
              have hc2 := (hbk.at HE.out).2.2
              have hf2 := hbk.free (q * 3 + 2)
              obtain ⟨ga, gc, hgv, _⟩ := row_form HGP.out.row
              subst hgv
              clear hbk
              go_wp2
              go_roundw
              case rel => exact ⟨q + 1, _, by go_num, by omega, HNB⟩
              case measure => simp [intOf]; omega
        · obtain rfl : q = es.length := by omega
          clear hlt hq
          go_wp2
          obtain ⟨WC, hWC⟩ : ∃ WC, WC = wr := ⟨_, rfl⟩
          have HGC : Hid (Grn WB N g es es.length gv2 WC) := by rw [hWC]; exact HGN.out
          have HBC : Hid (Below WC.heap.size WC wr) := by rw [hWC]; exact Below.refl _ _
          clear HGN hWC
          go_loopw [11] (fun j wr => ∃ q : Nat, j = .int .i64 q ∧ q ≤ es.length ∧ Hid (Below WC.heap.size WC wr)) (fun j _ => es.length - (intOf j).toNat)
          case atStart => exact ⟨0, rfl, Nat.zero_le _, HBC⟩
          case round =>
            clear HBC
            obtain ⟨q, rfl, hq, HBC⟩ := hrel
            by_cases hlt : q < es.length
            · obtain ⟨e, he⟩ : ∃ e, es[q]? = some e := ⟨es[q], List.getElem?_eq_getElem hlt⟩
              have hls := HGC.out.ls q e he
              obtain ⟨hgs, _⟩ := HGC.out.gs q e he hlt
              obtain ⟨la, lc, hlv, hlc⟩ := row_form hls
              obtain ⟨ga, gc, hgv, hgc⟩ := row_form hgs
              have hel : e.2.1 ≤ 100000 := (HW.out q e he).2
              obtain ⟨hc0, _, hc2⟩ := HGC.out.bk.at he
              have hgl := HGC.out.bk.lt
              obtain ⟨ln, hln⟩ : ∃ ln, ln = e.2.1 := ⟨_, rfl⟩
              rw [hlv] at hls hc0
              rw [hgv] at hgs hc2
              rw [← hln] at hls hgs hc0 hc2 hel hgc
              have HLS : Hid (WC.ownsRow 0 5 1 (.slice la ln lc) ln (bv (stains (N q) ln))) := hls
              have HGS : Hid (WC.ownsRow 0 5 1 (.slice ga (ln + 96) gc) (ln + 96) (bv (stains (N q) ln ++ List.replicate 96 (tailV q)))) := hgs
              have HC0 : Hid (WC.cell? ⟨g, q * 3, none⟩ = some (.slice la ln lc)) := hc0
              have HC2 : Hid (WC.cell? ⟨g, q * 3 + 2, none⟩ = some (.slice ga (ln + 96) gc)) := hc2
              have HSTN : Hid (∀ (p : Nat) (W : World), p ≤ 100000 → Calls Try.prog 35 #[.int .i64 ((q : Nat) : Int), .int .i64 p] W fun e w' => e = .returned (.int .u8 (stainV (N q) p)) ∧ w' = W) := fun p W hp => by
                rw [HNN.out q]
                exact stain_any _ p W (by omega) (by omega)
              obtain ⟨gb, rfl⟩ := row_some hgs (by omega)
              have hlt' : (q : Int) < (es.length : Int) := by omega
              have hcell : wr.cell? ⟨g, q * 3, none⟩ = some (.slice la ln lc) := (HBC.out.cell (p := ⟨g, q * 3, none⟩) hgl).trans hc0
              clear he hls hgs hlv hgv hln hc0 hc2
              go_wp2
              go_loopw [14] (fun k wr => ∃ p : Nat, k = .int .i64 p ∧ p ≤ ln ∧ Hid (Below WC.heap.size WC wr)) (fun k _ => ln - (intOf k).toNat)
              case atStart => exact ⟨0, rfl, Nat.zero_le _, HBC⟩
              case round =>
                clear hcell HBC
                obtain ⟨p, rfl, hp, HBC⟩ := hrel
                have hd2 : wr.cell? ⟨g, q * 3 + 2, none⟩ = some (.slice (some ⟨gb, 0, none⟩) (ln + 96) gc) := (HBC.out.cell (p := ⟨g, q * 3 + 2, none⟩) hgl).trans HC2.out
                by_cases hltp : p < ln
                · have hd0 : wr.cell? ⟨g, q * 3, none⟩ = some (.slice la ln lc) := (HBC.out.cell (p := ⟨g, q * 3, none⟩) hgl).trans HC0.out
                  obtain ⟨lb, rfl⟩ := row_some HLS.out (by omega)
                  obtain ⟨h1, h2⟩ := row_cell HLS.out (stains_get hltp)
                  obtain ⟨h3, h4⟩ := row_cell HGS.out (p := p) (x := stainV (N q) p) (by rw [List.getElem?_append_left (by rw [stains_len]; exact hltp)]; exact stains_get hltp)
                  have hd3 : wr.cell? ⟨lb, p, none⟩ = some (.int .u8 (stainV (N q) p)) := (HBC.out.cell (p := ⟨lb, p, none⟩) h2).trans h1
                  have hd4 : wr.cell? ⟨gb, p, none⟩ = some (.int .u8 (stainV (N q) p)) := (HBC.out.cell (p := ⟨gb, p, none⟩) h4).trans h3
                  have hltp' : (p : Int) < (ln : Int) := by omega
                  have hltq : (p : Int) < (ln : Int) + 96 := by omega
                  have HBD : Hid (Below WC.heap.size WC wr.drew) := HBC.out.drew
                  clear h1 h2 h3 h4
                  go_wp2
                  go_region_held3 (fun w' => w'.cell? ⟨g, q * 3, none⟩ = some (.slice (some ⟨lb, 0, none⟩) ln lc) ∧ w'.cell? ⟨g, q * 3 + 2, none⟩ = some (.slice (some ⟨gb, 0, none⟩) (ln + 96) gc) ∧ w'.cell? ⟨lb, p, none⟩ = some (.int .u8 (stainV (N q) p)) ∧ w'.cell? ⟨gb, p, none⟩ = some (.int .u8 (stainV (N q) p))) (go_keep) (first | (go_at_call 35; refine (HSTN.out p _ (by omega)).mono ?_; rintro e w1 ⟨rfl, rfl⟩))
                  go_wp2
                  go_roundw
                  case rel => exact ⟨p + 1, by go_num, by omega, HBD⟩
                  case measure => simp [intOf]; omega
                · obtain rfl : p = ln := by omega
                  clear hltp hp
                  go_wp2
                  go_loopw [15] (fun k wr => ∃ r : Nat, k = .int .i64 r ∧ r ≤ 96 ∧ Hid (Below WC.heap.size WC wr)) (fun k _ => 96 - (intOf k).toNat)
                  case atStart => exact ⟨0, rfl, Nat.zero_le _, HBC⟩
                  case round =>
                    clear hd2 HBC
                    obtain ⟨r, rfl, hr, HBC⟩ := hrel
                    by_cases hltr : r < 96
                    · have hd2 : wr.cell? ⟨g, q * 3 + 2, none⟩ = some (.slice (some ⟨gb, 0, none⟩) (p + 96) gc) := (HBC.out.cell (p := ⟨g, q * 3 + 2, none⟩) hgl).trans HC2.out
                      obtain ⟨h3, h4⟩ := row_cell HGS.out (p := p + r) (x := tailV q) (by rw [List.getElem?_append_right (by rw [stains_len]; omega), stains_len, List.getElem?_replicate, if_pos (by omega)])
                      have hd4 : wr.cell? ⟨gb, p + r, none⟩ = some (.int .u8 (242 + (q : Int) % 13)) := by
                        rw [show (242 : Int) + (q : Int) % 13 = tailV q by unfold tailV; omega]
                        exact (HBC.out.cell (p := ⟨gb, p + r, none⟩) h4).trans h3
                      have hltr' : (r : Int) < 96 := by omega
                      have hltq : (p : Int) + (r : Int) < (p : Int) + 96 := by omega
                      have hnn : (0 : Int) ≤ (p : Int) + (r : Int) := by omega
                      have hto : ((p : Int) + (r : Int)).toNat = p + r := by omega
                      clear h3 h4
                      go_wp2
                      go_roundw
                      case rel => exact ⟨r + 1, by go_num, by omega, HBC⟩
                      case measure => simp [intOf]; omega
                    · go_wp2
                      go_roundw
                      case rel => exact ⟨q + 1, by go_num, by omega, HBC⟩
                      case measure => simp [intOf]; omega
            · go_wp2
              go_ret
              refine ⟨rfl, gv2, HGC.out.bk.fr (Fr.of_below HBC.out (fun _ => False)) (fun e => e), ((HFA.out.mono (fun b hb => .inl (.inr hb))).trans HGC.out.fr (fun b hb => .inl hb)).trans (Fr.of_below HBC.out (fun _ => False)) (fun _ e => e.elim), fun j e he => ⟨stains (N j) e.2.1, stains_len _ _, owns_fr (HGC.out.ls j e he) (Fr.of_below HBC.out (fun _ => False)) (fun _ _ e => e)⟩⟩
set_option maxHeartbeats 16000000 in
set_option maxRecDepth 100000 in
theorem stained_1 (g cap : Nat) (es : List En) (gv : Nat → Value) (w : World) (hb : Bk w g es gv) (ha : Ap es) (hw : ∀ (j : Nat) (e : En), es[j]? = some e → (∃ zs : List Int, zs.length = e.2.1 ∧ w.ownsRow 0 5 1 e.1 e.2.1 (bv zs)) ∧ e.2.1 ≤ 100000) (hn : es.length ≤ 1000) (hc : es.length ≤ cap) :
    Calls Try.prog 19 #[.slice (some ⟨g, 0, none⟩) es.length cap, .int .i64 1] w fun e w' => e = .returned (.bool true) ∧ ∃ gv', Bk w' g es gv' ∧ Fr (fun b => b = g ∨ LB es b) w w' ∧ (∀ (j : Nat) (e : En), es[j]? = some e → ∃ zs : List Int, zs.length = e.2.1 ∧ w'.ownsRow 0 5 1 e.1 e.2.1 (bv zs)) := by
  have HBK : Hid (Bk w g es gv) := hb
  have HAP : Hid (Ap es) := ha
  have HW : Hid (∀ (j : Nat) (e : En), es[j]? = some e → (∃ zs : List Int, zs.length = e.2.1 ∧ w.ownsRow 0 5 1 e.1 e.2.1 (bv zs)) ∧ e.2.1 ≤ 100000) := hw
  obtain ⟨N, hN⟩ : ∃ N : Nat → Nat, N = fun q => (q / 241) := ⟨_, rfl⟩
  have HNN : Hid (∀ q, N q = (q / 241)) := fun q => by rw [hN]
  clear hb ha hw hN
  obtain ⟨i5, hi5, hy0, hy1, hy2⟩ := info_parts Try.info5
  go_enter Try.func19, Try.ntmps19
  go_wp2
  go_loopw [5] (fun j wr => ∃ q : Nat, j = .int .i64 q ∧ q ≤ es.length ∧ Hid (SA w N g es gv q wr)) (fun j _ => es.length - (intOf j).toNat)
  case atStart => exact ⟨0, rfl, Nat.zero_le _, ⟨Fr.refl _ _, HBK.out, fun j e he => by obtain ⟨⟨zs, h1, h2⟩, _⟩ := HW.out j e he; exact ⟨zs, h1, h2, fun h => by omega⟩⟩⟩
  case round =>
    obtain ⟨q, rfl, hq, HS⟩ := hrel
    by_cases hlt : q < es.length
    · obtain ⟨e, he⟩ : ∃ e, es[q]? = some e := ⟨es[q], List.getElem?_eq_getElem hlt⟩
      obtain ⟨zs, hz1, hz2, _⟩ := HS.out.wr q e he
      obtain ⟨la, lc, hlv, hlc⟩ := row_form hz2
      have hel : e.2.1 ≤ 100000 := (HW.out q e he).2
      obtain ⟨ln, hln⟩ : ∃ ln, ln = e.2.1 := ⟨_, rfl⟩
      have HLN : Hid (ln = e.2.1) := hln
      have HLV : Hid (e.1 = .slice la ln lc) := by rw [hln]; exact hlv
      have HSK : Hid (SAk w N g es gv q 0 e wr) := ⟨HS.out.fr, HS.out.bk, HS.out.wr.begin he⟩
      have HE : Hid (es[q]? = some e) := he
      have hcell : wr.cell? ⟨g, q * 3, none⟩ = some (.slice la ln lc) := by rw [(HS.out.bk.at he).1, HLV.out]
      have hlt' : (q : Int) < (es.length : Int) := by omega
      rw [← hln] at hel
      clear HS he hz1 hz2 hlv hln hlc
      have HSTN : Hid (∀ (p : Nat) (W : World), p ≤ 100000 → Calls Try.prog 35 #[.int .i64 (((q / 241) : Nat) : Int), .int .i64 p] W fun e w' => e = .returned (.int .u8 (stainV (N q) p)) ∧ w' = W) := fun p W hp => by
        rw [HNN.out q]
        exact stain_any _ p W (by omega) (by omega)
      have hdiv : (q : Int).tdiv 241 = ((q / 241 : Nat) : Int) := by rw [Int.tdiv_eq_ediv_of_nonneg (by omega)]; omega
      go_wp2
      go_loopw [7] (fun k wr => ∃ p : Nat, k = .int .i64 p ∧ p ≤ ln ∧ Hid (SAk w N g es gv q p e wr)) (fun k _ => ln - (intOf k).toNat)
      case atStart => exact ⟨0, rfl, Nat.zero_le _, HSK.out⟩
      case round =>
        clear hcell HSK
        obtain ⟨p, rfl, hp, HSP⟩ := hrel
        have hcell : wr.cell? ⟨g, q * 3, none⟩ = some (.slice la ln lc) := by rw [(HSP.out.bk.at HE.out).1, HLV.out]
        by_cases hltp : p < ln
        · obtain ⟨zs, hz1, hz2, _⟩ := HSP.out.wr.mine
          rw [HLV.out, ← HLN.out] at hz2
          rw [← HLN.out] at hz1
          obtain ⟨b, rfl⟩ := row_some hz2 (by omega)
          have hgb : g ≠ b := fun e' => HSP.out.bk.ne hz2 (by rw [e']; rfl)
          obtain ⟨cur, hcur, hcs⟩ : ∃ cur, wr.heap[b]? = some (.cells cur 5 (0, 0)) ∧ ln ≤ cur.size := by
            rcases hz2.2 with ⟨h0, _⟩ | ⟨g', cap', cur, h0, _, hg, h1, h2, h3, _⟩
            · cases h0
            · cases h0; exact ⟨cur, hg, by omega⟩
          obtain ⟨u0, hbp⟩ : ∃ u, wr.cell? ⟨b, p, none⟩ = some u := ⟨cur[p]'(by omega), by rw [cell_blk hcur, Array.getElem?_eq_getElem]⟩
          have hbf : wr.frozen? ⟨b, p, none⟩ = false := frozen_blk hcur p
          have hltp' : (p : Int) < (ln : Int) := by omega
          have HNX : Hid (SAk w N g es gv q (p + 1) e (wr.drew.setCell ⟨b, p, none⟩ (.int .u8 (stainV (N q) p)))) := (HSP.out.drew HE.out).step HAP.out HE.out (by rw [HLV.out, HLN.out]) (by rw [← HLN.out]; exact hltp)
          have hk2 : (wr.setCell ⟨b, p, none⟩ (.int .u8 (stainV (N q) p))).drew.cell? ⟨g, q * 3, none⟩ = some (.slice (some ⟨b, 0, none⟩) ln lc) := by
            show (wr.setCell ⟨b, p, none⟩ (.int .u8 (stainV (N q) p))).cell? ⟨g, q * 3, none⟩ = _
            exact cell_far hgb hcell
          clear hz1 hz2 hcur hcs
          go_wp2
          go_region_held3 (fun w' => w'.cell? ⟨g, q * 3, none⟩ = some (.slice (some ⟨b, 0, none⟩) ln lc)) (first | exact hk2 | go_keep) (first | (go_at_call 35; refine (HSTN.out p _ (by omega)).mono ?_; rintro e w1 ⟨rfl, rfl⟩))
          go_wp2
          go_roundw
          case rel => exact ⟨p + 1, by go_num, by omega, HNX⟩
          case measure => simp [intOf]; omega
        · obtain rfl : p = ln := by omega
          have HE2 : Hid (SA w N g es gv (q + 1) wr) := ⟨HSP.out.fr, HSP.out.bk, by have h := HSP.out.wr; rw [HLN.out] at h; exact h.ended HE.out⟩
          go_wp2
          go_roundw
          case rel => exact ⟨q + 1, by go_num, by omega, HE2⟩
          case measure => simp [intOf]; omega
    · obtain rfl : q = es.length := by omega
      clear hlt hq
      go_wp2
      obtain ⟨WB, hWB⟩ : ∃ WB, WB = wr := ⟨_, rfl⟩
      have HG0 : Hid (Grn WB N g es 0 gv wr) := by rw [hWB]; exact Grn.start HS.out.bk HS.out.wr
      have HFA : Hid (Fr (LB es) w WB) := by rw [hWB]; exact HS.out.fr
      have HLB : Hid (∀ b, LB es b → b < WB.heap.size) := by
        rintro b ⟨e, he, hk⟩
        obtain ⟨j, hj⟩ := List.getElem?_of_mem he
        obtain ⟨zs, _, h2, _⟩ := HS.out.wr j e hj
        rw [hWB]
        exact (owns_kind h2 b hk).1
      clear HS hWB
      go_loopw [8] (fun j wr => ∃ (q : Nat) (gv2 : Nat → Value), j = .int .i64 q ∧ q ≤ es.length ∧ Hid (Grn WB N g es q gv2 wr)) (fun j _ => es.length - (intOf j).toNat)
      case atStart => exact ⟨0, gv, rfl, Nat.zero_le _, HG0⟩
      case round =>
        clear HG0
        obtain ⟨q, gv2, rfl, hq, HGN⟩ := hrel
        by_cases hlt : q < es.length
        · obtain ⟨e, he⟩ : ∃ e, es[q]? = some e := ⟨es[q], List.getElem?_eq_getElem hlt⟩
          obtain ⟨la, lc, hlv, hlc⟩ := row_form (HGN.out.ls q e he)
          have hel : e.2.1 ≤ 100000 := (HW.out q e he).2
          obtain ⟨ln, hln⟩ : ∃ ln, ln = e.2.1 := ⟨_, rfl⟩
          have HLN : Hid (ln = e.2.1) := hln
          have HLV : Hid (e.1 = .slice la ln lc) := by rw [hln]; exact hlv
          have HE : Hid (es[q]? = some e) := he
          have HGK : Hid (Grk wr e (stains (N q) e.2.1) (tailV q) 0 (.slice la ln lc) wr) := by rw [← HLV.out]; exact HGN.out.begin he
          have hcell : wr.cell? ⟨g, q * 3, none⟩ = some (.slice la ln lc) := by rw [(HGN.out.bk.at he).1, HLV.out]
          have hlt' : (q : Int) < (es.length : Int) := by omega
          have HOLD : Hid (∀ k, e.1.ownBlock = some k → k < wr.heap.size) := fun k hk => (owns_kind (HGN.out.ls q e he) k hk).1
          rw [← hln] at hel
          clear he hlv hln hlc
          obtain ⟨Wq, hWq⟩ : ∃ Wq, Wq = wr := ⟨_, rfl⟩
          have HGN2 : Hid (Grn WB N g es q gv2 Wq) := by rw [hWq]; exact HGN.out
          have HOLD2 : Hid (∀ k, e.1.ownBlock = some k → k < Wq.heap.size) := by rw [hWq]; exact HOLD.out
          have HGK2 : Hid (Grk Wq e (stains (N q) e.2.1) (tailV q) 0 (.slice la ln lc) wr) := by rw [hWq]; exact HGK.out
          clear HGN HOLD HGK hWq
          go_wp2
          go_loopw [9, 10] (fun gval k wr => ∃ p : Nat, k = .int .i64 p ∧ p ≤ 96 ∧ Hid (Grk Wq e (stains (N q) e.2.1) (tailV q) p gval wr)) (fun _ k _ => 96 - (intOf k).toNat)
          case atStart => exact ⟨0, rfl, by omega, HGK2⟩
          case round =>
            clear hcell HGK2
            obtain ⟨p, rfl, hp, HGP⟩ := hrel
            by_cases hltp : p < 96
            · have hltp' : (p : Int) < 96 := by omega
              obtain ⟨ga, gc, hgv, _⟩ := row_form HGP.out.row
              rw [← HLN.out] at hgv
              subst hgv
              have HRW : Hid ((wr.alloc (.cells #[.int .u8 (242 + (q : Int) % 13)] 5)).ownsRow 0 5 1 (.slice ga (ln + p) gc) (ln + p) (bv (stains (N q) ln ++ List.replicate p (tailV q)))) := by
                have h := HGP.out.row
                rw [← HLN.out] at h
                exact h.alloc _
              go_wp2_with (first | (at_builtin; refine wpList_append_rows _ rfl _ _ 26 rfl 5 i5 (.int .u8 0) 1 Try.underlying26 hi5 hy0 hy1 hy2 rfl (.slice ga (ln + p) gc) (ln + p) (bv (stains (N q) ln ++ List.replicate p (tailV q))) rfl HRW.out ⟨wr.heap.size, 0, none⟩ 1 1 [.int .u8 (242 + (q : Int) % 13)] rfl rfl (cell_one_new _ _ _) (fun x hx => by simp at hx; subst hx; rfl) (by omega) (by unfold maxLen; omega) (by omega) ?_) | fail)
              intro g' cap' w2 hown2 halt2
              rw [show (242 : Int) + (q : Int) % 13 = tailV q by unfold tailV; omega] at hown2
              have HNX : Hid (Grk Wq e (stains (N q) e.2.1) (tailV q) (p + 1) (.slice (some ⟨g', 0, none⟩) (ln + p + 1) cap') w2) := by
                have h1 := HLN.out
                subst h1
                exact Grk.next HGP.out (stains_len _ _) HOLD2.out hown2 (halt2.imp (fun h => ⟨by rw [h.1.1, h.1.2], h.2⟩) (fun h => ⟨by rw [World.size_alloc]; exact h.1, h.2⟩))
              clear hown2 halt2 HRW
              go_wp2
              go_roundw
              case rel => exact ⟨p + 1, by go_num, by omega, HNX⟩
              case measure => simp [intOf]; omega
            · obtain rfl : p = 96 := by omega
              have HNB : Hid (Grn WB N g es (q + 1) (fun j => if j = q then u9 else gv2 j) (wr.setCell ⟨g, q * 3 + 2, none⟩ u9)) := HGN2.out.next HAP.out HE.out HLB.out HGP.out
              have hbk : Bk wr g es gv2 := HGN2.out.bk.fr HGP.out.fr (HGN2.out.bk.ne (HGN2.out.ls q e HE.out))
              have hc2 := (hbk.at HE.out).2.2
              have hf2 := hbk.free (q * 3 + 2)
              obtain ⟨ga, gc, hgv, _⟩ := row_form HGP.out.row
              subst hgv
              clear hbk
              go_wp2
              go_roundw
              case rel => exact ⟨q + 1, _, by go_num, by omega, HNB⟩
              case measure => simp [intOf]; omega
        · obtain rfl : q = es.length := by omega
          clear hlt hq
          go_wp2
          obtain ⟨WC, hWC⟩ : ∃ WC, WC = wr := ⟨_, rfl⟩
          have HGC : Hid (Grn WB N g es es.length gv2 WC) := by rw [hWC]; exact HGN.out
          have HBC : Hid (Below WC.heap.size WC wr) := by rw [hWC]; exact Below.refl _ _
          clear HGN hWC
          go_loopw [11] (fun j wr => ∃ q : Nat, j = .int .i64 q ∧ q ≤ es.length ∧ Hid (Below WC.heap.size WC wr)) (fun j _ => es.length - (intOf j).toNat)
          case atStart => exact ⟨0, rfl, Nat.zero_le _, HBC⟩
          case round =>
            clear HBC
            obtain ⟨q, rfl, hq, HBC⟩ := hrel
            by_cases hlt : q < es.length
            · obtain ⟨e, he⟩ : ∃ e, es[q]? = some e := ⟨es[q], List.getElem?_eq_getElem hlt⟩
              have hls := HGC.out.ls q e he
              obtain ⟨hgs, _⟩ := HGC.out.gs q e he hlt
              obtain ⟨la, lc, hlv, hlc⟩ := row_form hls
              obtain ⟨ga, gc, hgv, hgc⟩ := row_form hgs
              have hel : e.2.1 ≤ 100000 := (HW.out q e he).2
              obtain ⟨hc0, _, hc2⟩ := HGC.out.bk.at he
              have hgl := HGC.out.bk.lt
              obtain ⟨ln, hln⟩ : ∃ ln, ln = e.2.1 := ⟨_, rfl⟩
              rw [hlv] at hls hc0
              rw [hgv] at hgs hc2
              rw [← hln] at hls hgs hc0 hc2 hel hgc
              have HLS : Hid (WC.ownsRow 0 5 1 (.slice la ln lc) ln (bv (stains (N q) ln))) := hls
              have HGS : Hid (WC.ownsRow 0 5 1 (.slice ga (ln + 96) gc) (ln + 96) (bv (stains (N q) ln ++ List.replicate 96 (tailV q)))) := hgs
              have HC0 : Hid (WC.cell? ⟨g, q * 3, none⟩ = some (.slice la ln lc)) := hc0
              have HC2 : Hid (WC.cell? ⟨g, q * 3 + 2, none⟩ = some (.slice ga (ln + 96) gc)) := hc2
              have HSTN : Hid (∀ (p : Nat) (W : World), p ≤ 100000 → Calls Try.prog 35 #[.int .i64 (((q / 241) : Nat) : Int), .int .i64 p] W fun e w' => e = .returned (.int .u8 (stainV (N q) p)) ∧ w' = W) := fun p W hp => by
                rw [HNN.out q]
                exact stain_any _ p W (by omega) (by omega)
              obtain ⟨gb, rfl⟩ := row_some hgs (by omega)
              have hlt' : (q : Int) < (es.length : Int) := by omega
              have hcell : wr.cell? ⟨g, q * 3, none⟩ = some (.slice la ln lc) := (HBC.out.cell (p := ⟨g, q * 3, none⟩) hgl).trans hc0
              clear he hls hgs hlv hgv hln hc0 hc2
              have hdiv : (q : Int).tdiv 241 = ((q / 241 : Nat) : Int) := by rw [Int.tdiv_eq_ediv_of_nonneg (by omega)]; omega
              go_wp2
              go_loopw [14] (fun k wr => ∃ p : Nat, k = .int .i64 p ∧ p ≤ ln ∧ Hid (Below WC.heap.size WC wr)) (fun k _ => ln - (intOf k).toNat)
              case atStart => exact ⟨0, rfl, Nat.zero_le _, HBC⟩
              case round =>
                clear hcell HBC
                obtain ⟨p, rfl, hp, HBC⟩ := hrel
                have hd2 : wr.cell? ⟨g, q * 3 + 2, none⟩ = some (.slice (some ⟨gb, 0, none⟩) (ln + 96) gc) := (HBC.out.cell (p := ⟨g, q * 3 + 2, none⟩) hgl).trans HC2.out
                by_cases hltp : p < ln
                · have hd0 : wr.cell? ⟨g, q * 3, none⟩ = some (.slice la ln lc) := (HBC.out.cell (p := ⟨g, q * 3, none⟩) hgl).trans HC0.out
                  obtain ⟨lb, rfl⟩ := row_some HLS.out (by omega)
                  obtain ⟨h1, h2⟩ := row_cell HLS.out (stains_get hltp)
                  obtain ⟨h3, h4⟩ := row_cell HGS.out (p := p) (x := stainV (N q) p) (by rw [List.getElem?_append_left (by rw [stains_len]; exact hltp)]; exact stains_get hltp)
                  have hd3 : wr.cell? ⟨lb, p, none⟩ = some (.int .u8 (stainV (N q) p)) := (HBC.out.cell (p := ⟨lb, p, none⟩) h2).trans h1
                  have hd4 : wr.cell? ⟨gb, p, none⟩ = some (.int .u8 (stainV (N q) p)) := (HBC.out.cell (p := ⟨gb, p, none⟩) h4).trans h3
                  have hltp' : (p : Int) < (ln : Int) := by omega
                  have hltq : (p : Int) < (ln : Int) + 96 := by omega
                  have HBD : Hid (Below WC.heap.size WC wr.drew) := HBC.out.drew
                  clear h1 h2 h3 h4
                  go_wp2
                  go_region_held3 (fun w' => w'.cell? ⟨g, q * 3, none⟩ = some (.slice (some ⟨lb, 0, none⟩) ln lc) ∧ w'.cell? ⟨g, q * 3 + 2, none⟩ = some (.slice (some ⟨gb, 0, none⟩) (ln + 96) gc) ∧ w'.cell? ⟨lb, p, none⟩ = some (.int .u8 (stainV (N q) p)) ∧ w'.cell? ⟨gb, p, none⟩ = some (.int .u8 (stainV (N q) p))) (go_keep) (first | (go_at_call 35; refine (HSTN.out p _ (by omega)).mono ?_; rintro e w1 ⟨rfl, rfl⟩))
                  go_wp2
                  go_roundw
                  case rel => exact ⟨p + 1, by go_num, by omega, HBD⟩
                  case measure => simp [intOf]; omega
                · obtain rfl : p = ln := by omega
                  clear hltp hp
                  go_wp2
                  go_loopw [15] (fun k wr => ∃ r : Nat, k = .int .i64 r ∧ r ≤ 96 ∧ Hid (Below WC.heap.size WC wr)) (fun k _ => 96 - (intOf k).toNat)
                  case atStart => exact ⟨0, rfl, Nat.zero_le _, HBC⟩
                  case round =>
                    clear hd2 HBC
                    obtain ⟨r, rfl, hr, HBC⟩ := hrel
                    by_cases hltr : r < 96
                    · have hd2 : wr.cell? ⟨g, q * 3 + 2, none⟩ = some (.slice (some ⟨gb, 0, none⟩) (p + 96) gc) := (HBC.out.cell (p := ⟨g, q * 3 + 2, none⟩) hgl).trans HC2.out
                      obtain ⟨h3, h4⟩ := row_cell HGS.out (p := p + r) (x := tailV q) (by rw [List.getElem?_append_right (by rw [stains_len]; omega), stains_len, List.getElem?_replicate, if_pos (by omega)])
                      have hd4 : wr.cell? ⟨gb, p + r, none⟩ = some (.int .u8 (242 + (q : Int) % 13)) := by
                        rw [show (242 : Int) + (q : Int) % 13 = tailV q by unfold tailV; omega]
                        exact (HBC.out.cell (p := ⟨gb, p + r, none⟩) h4).trans h3
                      have hltr' : (r : Int) < 96 := by omega
                      have hltq : (p : Int) + (r : Int) < (p : Int) + 96 := by omega
                      have hnn : (0 : Int) ≤ (p : Int) + (r : Int) := by omega
                      have hto : ((p : Int) + (r : Int)).toNat = p + r := by omega
                      clear h3 h4
                      go_wp2
                      go_roundw
                      case rel => exact ⟨r + 1, by go_num, by omega, HBC⟩
                      case measure => simp [intOf]; omega
                    · go_wp2
                      go_roundw
                      case rel => exact ⟨q + 1, by go_num, by omega, HBC⟩
                      case measure => simp [intOf]; omega
            · go_wp2
              go_ret
              refine ⟨rfl, gv2, HGC.out.bk.fr (Fr.of_below HBC.out (fun _ => False)) (fun e => e), ((HFA.out.mono (fun b hb => .inl (.inr hb))).trans HGC.out.fr (fun b hb => .inl hb)).trans (Fr.of_below HBC.out (fun _ => False)) (fun _ e => e.elim), fun j e he => ⟨stains (N j) e.2.1, stains_len _ _, owns_fr (HGC.out.ls j e he) (Fr.of_below HBC.out (fun _ => False)) (fun _ _ e => e)⟩⟩
end Go.Proofs.Ytdjibjmhjofedac
