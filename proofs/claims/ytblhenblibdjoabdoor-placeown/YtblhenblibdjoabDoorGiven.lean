/-
  given by a contract.
-/
import Derived.Test.YtblhenblibdjoabDoorGivenGrow
import Derived.Deep.RegionHeld3
namespace Go.Proofs.YtblhenblibdjoabDoor
open Go.RowKit

/-- The rows below q are full of marks, the others as they were. -/
def Half (w : World) (B : Nat) (ls : List Rw) (q : Nat) : Prop := ∀ (i : Nat) (r : Rw), ls[i]? = some r → (i < q → Rok w B (r.1, marks i r.2.length)) ∧ (q ≤ i → Rok w B r)
/-- All rows but q. -/
def Rest (w : World) (B : Nat) (ls : List Rw) (q : Nat) : Prop := ∀ (i : Nat) (r : Rw), ls[i]? = some r → (i < q → Rok w B (r.1, marks i r.2.length)) ∧ (q < i → Rok w B r)

theorem HeldAt.out_of {w : World} {B hb gl cl gw cw n n' : Nat} {ls ws : List Rw} (H : HeldAt w B hb (.slice (some ⟨gl, 0, none⟩) n cl) (.slice (some ⟨gw, 0, none⟩) n' cw) ls ws) : hb ∉ blks ls ∧ gl ∉ blks ls := by
  refine ⟨fun h => ?_, fun h => ?_⟩
  · obtain ⟨r, hr, hk⟩ := List.mem_filterMap.1 h
    exact (H.row_ne (H.lrows r hr) hk).1 rfl
  · obtain ⟨r, hr, hk⟩ := List.mem_filterMap.1 h
    exact (H.row_ne (H.lrows r hr) hk).2.1 rfl

theorem cell_far {w : World} {g p b k : Nat} {u v : Value} (h : b ≠ g) (hc : w.cell? ⟨b, k, none⟩ = some u) : (w.setCell ⟨g, p, none⟩ v).cell? ⟨b, k, none⟩ = some u := by
  rw [World.cell?_of_block (w := w) (Below.heap_setCell w ⟨g, p, none⟩ v b h)]
  exact hc
theorem below_of_drew {B : Nat} {w w' : World} (h : Below B w.drew w') : Below B w w' := ⟨h.os, h.tape, h.output, h.size, h.block⟩
theorem take_set_step {rs os : List ByteArray} {k : Nat} {x : ByteArray} (h : rs.take k = os.take k) (hx : os[k]? = some x) (hk : k < rs.length) : (rs.set k x).take (k + 1) = os.take (k + 1) := by
  rw [List.take_add_one, List.take_add_one, hx, ← h, List.getElem?_set_self hk, List.take_set, List.set_eq_of_length_le (by simp; omega)]
theorem row_put {w : World} {B g n cap k : Nat} {rs : List ByteArray} (x : ByteArray) (h : w.ownsRow B 9 1 (.slice (some ⟨g, 0, none⟩) n cap) n (rs.map Value.string)) : (w.setCell ⟨g, k, none⟩ (.string x)).ownsRow B 9 1 (.slice (some ⟨g, 0, none⟩) n cap) n ((rs.set k x).map Value.string) := by
  have := (h.stored k (.string x)).1
  rwa [← List.map_set] at this
theorem Rest.chg {w w' : World} {B q g n cap : Nat} {xs : List ByteArray} {ls : List Rw} (h : Rest w B ls q) (hnd : (blks ls).Nodup) (hq : ls[q]? = some (.slice (some ⟨g, 0, none⟩) n cap, xs)) (hc : Chg w w' (fun k => k = g)) : Rest w' B ls q := by
  intro i r hr
  have hne : i ≠ q → ∀ k, r.1.ownBlock = some k → ¬ k = g := fun hi k hk e => nodup_ne hnd hr hq hi k hk (by rw [e]; rfl)
  exact ⟨fun hi => owns_chg ((h i r hr).1 hi) hc (hne (by omega)), fun hi => owns_chg ((h i r hr).2 hi) hc (hne (by omega))⟩
theorem Half.of {w : World} {B q : Nat} {ls : List Rw} {v : Value} {xs zs : List ByteArray} (h : Rest w B ls q) (hq : ls[q]? = some (v, xs)) (hz : Rok w B (v, zs)) (hzs : zs = marks q xs.length) : Half w B ls (q + 1) := by
  intro i r hr
  refine ⟨fun hi => ?_, fun hi => (h i r hr).2 (by omega)⟩
  by_cases e : i = q
  · subst e
    rw [hq] at hr
    have := Option.some.inj hr
    subst this
    rw [hzs] at hz
    exact hz
  · exact (h i r hr).1 (by omega)

theorem rok_cell {w : World} {B p n c b : Nat} {zs : List ByteArray} {y : ByteArray} (h : Rok w B (.slice (some ⟨b, 0, none⟩) n c, zs)) (hy : zs[p]? = some y) : w.cell? ⟨b, p, none⟩ = some (.string y) := by
  have hn : zs.length = n := by
    rcases h.2 with ⟨h, _⟩ | ⟨g', cap', _, h, _⟩
    · cases h
    · simp only [Value.slice.injEq] at h
      exact h.2.1.symm
  have hr := Rok.row h hn
  rw [hr.cellAt p (by have := (List.getElem?_eq_some_iff.1 hy).1; omega), List.getElem?_map, hy]
  rfl
theorem rok_some {w : World} {B n c : Nat} {a : Option Addr} {zs : List ByteArray} (h : Rok w B (.slice a n c, zs)) (hn : 0 < zs.length) : ∃ b, a = some ⟨b, 0, none⟩ ∧ b < w.heap.size := by
  rcases h.2 with ⟨_, h0⟩ | ⟨g', cap', _, e, _, hg, _⟩
  · simp only at h0
    omega
  · simp only [Value.slice.injEq] at e
    exact ⟨g', e.1, (Array.getElem?_eq_some_iff.1 hg).1⟩
theorem rok_len {w : World} {B n c : Nat} {a : Option Addr} {zs : List ByteArray} (h : Rok w B (.slice a n c, zs)) : zs.length = n := by
  obtain ⟨a', c', e, _⟩ := row_form h
  simp only [Value.slice.injEq] at e
  exact e.2.1.symm

theorem drewN_below (w : World) (m : Nat) : Below w.heap.size w (w.drewN m) := below_drewN (Below.refl _ _) m

set_option linter.unusedSimpArgs false in
set_option maxHeartbeats 16000000 in
set_option maxRecDepth 100000 in
theorem given_some {w : World} {B hb gl cl gw cw : Nat} {ls ws : List Rw} (H : HeldAt w B hb (.slice (some ⟨gl, 0, none⟩) ls.length cl) (.slice (some ⟨gw, 0, none⟩) ls.length cw) ls ws) (hB : B ≤ w.heap.size)
    (hws : ws.map Prod.snd = ls.map Prod.snd) (hnd : (blks ls).Nodup) (hn : ls.length ≤ 1000) (hlen : ∀ r ∈ ls, r.2.length ≤ 100) :
    Calls Tryd.prog 24 #[.pointer (some ⟨hb, 0, none⟩)] w fun e w' => e = .returned (.bool true) ∧ Chg w w' (fun k => k ∈ blks ls) := by
  obtain ⟨i9, hi9, hy0, hy1, hy2⟩ := info_parts Tryd.info9
  obtain ⟨i0, hi, hz0, hz1, hz2⟩ := info_parts Tryd.info37
  have hwl : ws.length = ls.length := by have := congrArg List.length hws; simpa using this
  have HH : Hid _ := H
  have HWS : Hid _ := hws
  have HND : Hid _ := hnd
  have HLEN : Hid _ := hlen
  have HWO : Hid (w.ownsRow B 37 1 (.slice (some ⟨gw, 0, none⟩) ls.length cw) ls.length (ws.map Prod.fst)) := by have := H.wo; rw [hwl] at this; exact this
  have HWL : Hid _ := hwl
  have hc0 := two_cell0 H.blk
  have hc1 := two_cell1 H.blk
  clear H hws hnd hlen hwl
  go_enter Tryd.func24, Tryd.ntmps24
  go_wp2
  go_loopw [3] (fun j wr => ∃ q m : Nat, j = .int .i64 q ∧ wr = w.drewN m ∧ q ≤ ls.length) (fun j _ => ls.length - (intOf j).toNat)
  case atStart => exact ⟨0, 0, rfl, rfl, Nat.zero_le _⟩
  case round =>
    obtain ⟨q, m, rfl, rfl, hq⟩ := hrel
    by_cases hlt : q < ls.length
    · obtain ⟨r, hr⟩ : ∃ r, ls[q]? = some r := ⟨ls[q], List.getElem?_eq_getElem hlt⟩
      obtain ⟨r', hr'⟩ : ∃ r', ws[q]? = some r' := ⟨ws[q]'(by have := HWL.out; omega), List.getElem?_eq_getElem _⟩
      have hrr : r'.2 = r.2 := by
        have e1 : (ws.map Prod.snd)[q]? = some r'.2 := by rw [List.getElem?_map, hr']; rfl
        have e2 : (ls.map Prod.snd)[q]? = some r.2 := by rw [List.getElem?_map, hr]; rfl
        rw [HWS.out, e2] at e1
        exact (Option.some.inj e1).symm
      obtain ⟨a, c, hv, hL⟩ := row_form (HH.out.lrows r (List.mem_of_getElem? hr))
      obtain ⟨a', c', hv', hL'⟩ := row_form (HH.out.wrows r' (List.mem_of_getElem? hr'))
      rw [hrr] at hv' hL'
      have hcq := outer_cell HH.out.lo hr
      have hcq' := outer_cell HWO.out hr'
      rw [hv] at hcq
      rw [hv'] at hcq'
      have hrl := HLEN.out r (List.mem_of_getElem? hr)
      obtain ⟨xs, hxs⟩ : ∃ xs, xs = r.2 := ⟨_, rfl⟩
      rw [← hxs] at hcq hcq' hL hL' hrl
      have HT : Hid (∀ n, Calls Tryd.prog 20 #[.slice a xs.length c, .slice a' xs.length c'] (w.drewN (m + n)) fun e w' => e = .returned (.bool true) ∧ ∃ n', w' = w.drewN (m + n')) := fun n => by
        refine (texts_same a a' c c' xs _ (Lst.below hL (drewN_below w _)) (Lst.below hL' (drewN_below w _)) (by omega)).mono ?_
        rintro e w' ⟨h1, m', h2⟩
        exact ⟨h1, n + m', by rw [h2, World.drewN_drewN, Nat.add_assoc]⟩
      have hlt' : (q : Int) < (ls.length : Int) := by omega
      clear hr hr' hrr hv hv' hL hL' hxs
      go_wp2
      go_quiet (first | (go_at_call 20; refine (HT.out _).mono fun _ _ h => ⟨h.1, h.2⟩))
      go_wp2
      go_roundw
      case rel => exact ⟨q + 1, m + nq, by go_num, rfl, by omega⟩
      case measure => simp [intOf]; omega
    · obtain rfl : q = ls.length := by omega
      clear hlt hq
      have hout := HH.out.out_of
      have HS1 : Hid _ := hout.1
      have HS2 : Hid _ := hout.2
      clear hout
      go_wp2
      go_loopw [5] (fun j wr => ∃ q : Nat, j = .int .i64 q ∧ q ≤ ls.length ∧ Chg w wr (fun k => k ∈ blks ls) ∧ Hid (Half wr B ls q)) (fun j _ => ls.length - (intOf j).toNat)
      case atStart => exact ⟨0, rfl, Nat.zero_le _, Chg.of_below (drewN_below _ _) _, fun i r hr => ⟨fun h => by omega, fun _ => owns_chg (HH.out.lrows r (List.mem_of_getElem? hr)) (Chg.of_below (drewN_below w m) (fun _ => False)) (fun _ _ => id)⟩⟩
      case round =>
        obtain ⟨q, rfl, hq, hch, HHF⟩ := hrel
        have hblk : wr.heap[hb]? = some (.cells #[.slice (some ⟨gl, 0, none⟩) ls.length cl, .slice (some ⟨gw, 0, none⟩) ls.length cw] 41 (0, 0)) := by rw [hch.block hb HH.out.lt HS1.out]; exact HH.out.blk
        have hlo : wr.ownsRow B 37 1 (.slice (some ⟨gl, 0, none⟩) ls.length cl) ls.length (ls.map Prod.fst) := owns_chg HH.out.lo hch (fun k hk => by cases hk; exact HS2.out)
        have hcb := two_cell0 hblk
        by_cases hlt : q < ls.length
        · obtain ⟨r, hr⟩ : ∃ r, ls[q]? = some r := ⟨ls[q], List.getElem?_eq_getElem hlt⟩
          obtain ⟨v, xs⟩ := r
          have hrok : Rok wr B (v, xs) := (HHF.out q _ hr).2 (Nat.le_refl _)
          obtain ⟨a, c, hv, hL⟩ := row_form hrok
          simp only at hv
          subst hv
          have hcq := outer_cell hlo hr
          have hrl : xs.length ≤ 100 := HLEN.out _ (List.mem_of_getElem? hr)
          have hlt' : (q : Int) < (ls.length : Int) := by omega
          have HR : Hid _ := hr
          have hin : ∀ k, a = some ⟨k, 0, none⟩ → k ∈ blks ls := fun k hk => mem_blks (List.mem_of_getElem? hr) (by simp [Value.ownBlock, hk])
          clear hr hL
          go_wp2
          go_loopw [6] (fun k wr => ∃ (p : Nat) (zs : List ByteArray), k = .int .i64 p ∧ p ≤ xs.length ∧ Chg w wr (fun k => k ∈ blks ls) ∧ Hid (zs.length = xs.length ∧ zs.take p = (marks q xs.length).take p) ∧ Hid (Rok wr B (.slice a xs.length c, zs)) ∧ Hid (Rest wr B ls q)) (fun k _ => xs.length - (intOf k).toNat)
          case atStart => exact ⟨0, xs, rfl, Nat.zero_le _, hch, ⟨rfl, rfl⟩, hrok, fun i r hr => ⟨(HHF.out i r hr).1, fun h => (HHF.out i r hr).2 (by omega)⟩⟩
          case round =>
            obtain ⟨p, zs, rfl, hp, hchp, HZ, HZR, HRS⟩ := hrel
            have hblkp : wr.heap[hb]? = some (.cells #[.slice (some ⟨gl, 0, none⟩) ls.length cl, .slice (some ⟨gw, 0, none⟩) ls.length cw] 41 (0, 0)) := by rw [hchp.block hb HH.out.lt HS1.out]; exact HH.out.blk
            have hlop : wr.ownsRow B 37 1 (.slice (some ⟨gl, 0, none⟩) ls.length cl) ls.length (ls.map Prod.fst) := owns_chg HH.out.lo hchp (fun k hk => by cases hk; exact HS2.out)
            have hcbp := two_cell0 hblkp
            have hcqp := outer_cell hlop HR.out
            clear hblk hlo hcb hcq hch
            by_cases hltp : p < xs.length
            · obtain ⟨g, hg⟩ : ∃ g, a = some ⟨g, 0, none⟩ := by
                rcases HZR.out.2 with ⟨h, h0⟩ | ⟨g, cap, _, h, _⟩
                · have h1 := HZ.out.1
                  simp only at h0
                  omega
                · simp only [Value.slice.injEq] at h
                  exact ⟨g, h.1⟩
              subst hg
              have hltp' : (p : Int) < (xs.length : Int) := by omega
              obtain ⟨y, hy⟩ : ∃ y, zs[p]? = some y := ⟨zs[p]'(by have := HZ.out.1; omega), List.getElem?_eq_getElem _⟩
              have hrow : wr.ownsRow B 9 1 (.slice (some ⟨g, 0, none⟩) xs.length c) xs.length (zs.map Value.string) := Rok.row HZR.out HZ.out.1
              have hcg : wr.cell? ⟨g, p, none⟩ = some (.string y) := by
                rw [hrow.cellAt p (by omega), List.getElem?_map, hy]
                rfl
              have hfg := hrow.frozenAt p
              have HROW : Hid _ := hrow
              have hgin : g ∈ blks ls := hin g rfl
              have hgb : hb ≠ g := fun e => HS1.out (e ▸ hgin)
              have hgl : gl ≠ g := fun e => HS2.out (e ▸ hgin)
              have hgb2 : g < wr.heap.size := (hrow.lt g rfl).2
              have hblt : hb < wr.heap.size := Nat.lt_of_lt_of_le HH.out.lt hchp.size
              have hllt : gl < wr.heap.size := (hlop.lt gl rfl).2
              clear hrow hy hlop hblkp
              go_wp2
              go_region_held3 (fun w' => w'.cell? ⟨hb, 0, none⟩ = some (.slice (some ⟨gl, 0, none⟩) ls.length cl) ∧ w'.cell? ⟨gl, q, none⟩ = some (.slice (some ⟨g, 0, none⟩) xs.length c)) (first | go_keep | exact ⟨cell_far hgb (by simp [*]), cell_far hgl (by simp [*])⟩)
                (first | (go_at_call 22; refine (mark_any q p (by omega) (by omega) _).mono ?_; rintro e w1 ⟨rfl, hb1⟩; have e1 := hb1.cell (p := ⟨hb, 0, none⟩) hblt; have e2 := hb1.cell (p := ⟨gl, q, none⟩) hllt; have e3 := hb1.cell (p := ⟨g, p, none⟩) hgb2; have e4 := hb1.frozen (p := ⟨g, p, none⟩) hgb2; have HB1 : Hid _ := hb1; clear hb1; simp only [World.cell?_drew, World.frozen?_drew] at e1 e2 e3 e4))
              have hbw : Below wr.heap.size wr w1 := below_of_drew HB1.out
              have hrow1 : w1.ownsRow B 9 1 (.slice (some ⟨g, 0, none⟩) xs.length c) xs.length (zs.map Value.string) := owns_chg HROW.out (Chg.of_below hbw (fun _ => False)) (fun _ _ => id)
              have hch1 : Chg wr (w1.setCell ⟨g, p, none⟩ (.string (markB q p))) (fun k => k = g) := (Chg.of_below hbw _).trans (Chg.set w1 ⟨g, p, none⟩ _)
              have HA1 : Hid _ := hchp.trans (hch1.mono (fun k _ e => e ▸ hgin))
              have HA2 : Hid ((zs.set p (markB q p)).length = xs.length ∧ (zs.set p (markB q p)).take (p + 1) = (marks q xs.length).take (p + 1)) :=
                ⟨by rw [List.length_set]; exact HZ.out.1, take_set_step HZ.out.2 (marks_get hltp) (by have := HZ.out.1; omega)⟩
              have HA3 : Hid (Rok (w1.setCell ⟨g, p, none⟩ (.string (markB q p))) B (.slice (some ⟨g, 0, none⟩) xs.length c, zs.set p (markB q p))) := Rok.of (row_put _ hrow1) HA2.out.1
              have HA4 : Hid _ := Rest.chg HRS.out HND.out HR.out hch1
              clear hbw hrow1 hch1 e1 e2 e3 e4
              go_wp2
              go_roundw
              case rel => exact ⟨p + 1, _, by go_num, by omega, HA1.out, HA2.out, HA3.out, HA4.out⟩
              case measure => simp [intOf]; omega
            · obtain rfl : p = xs.length := by omega
              have hzs : zs = marks q xs.length := by
                have := HZ.out.2
                rwa [List.take_of_length_le (by rw [HZ.out.1]; exact Nat.le_refl _), List.take_of_length_le (by rw [marks_len]; exact Nat.le_refl _)] at this
              have HHN : Hid _ := Half.of HRS.out HR.out HZR.out hzs
              have HCN : Hid _ := hchp
              clear hzs hltp hp hlop hblkp hchp
              go_wp2
              go_roundw
              case rel => exact ⟨q + 1, by go_num, by omega, HCN.out, HHN.out⟩
              case measure => simp [intOf]; omega
        · obtain rfl : q = ls.length := by omega
          have HFULL : Hid (∀ (i : Nat) (r : Rw), ls[i]? = some r → Rok wr B (r.1, marks i r.2.length)) := fun i r hr => (HHF.out i r hr).1 (List.getElem?_eq_some_iff.1 hr).1
          clear hlt hq
          go_wp2
          have HC3 : Hid _ := hch
          clear hblk hlo hcb hch HHF
          obtain ⟨W3, rfl⟩ : ∃ W3, W3 = wr := ⟨_, rfl⟩
          have hlt3 : ∀ k, k ∈ blks ls → k < W3.heap.size := fun k hk => by
            obtain ⟨r, hr, hk'⟩ := List.mem_filterMap.1 hk
            exact Nat.lt_of_lt_of_le ((HH.out.lrows r hr).lt k hk').2 HC3.out.size
          have HLT3 : Hid _ := hlt3
          have hb3 : hb < W3.heap.size := Nat.lt_of_lt_of_le HH.out.lt HC3.out.size
          have hl3 : gl < W3.heap.size := Nat.lt_of_lt_of_le (HH.out.lo.lt gl rfl).2 HC3.out.size
          clear hlt3
          go_loopw [4, 7] (fun gv j wr => ∃ (q : Nat) (gs : List Rw), j = .int .i64 q ∧ q ≤ ls.length ∧ gs.length = q ∧ Hid (G3 W3 wr B ls gs gv)) (fun _ j _ => ls.length - (intOf j).toNat)
          case atStart => exact ⟨0, [], rfl, Nat.zero_le _, rfl, ⟨Chg.refl _ _, World.ownsRow_nil _ _ _ _, HFULL.out, fun i r g _ h => by simp at h⟩⟩
          case round =>
            obtain ⟨q, gs, rfl, hq, hgs, HG3⟩ := hrel
            have hblk : wr.heap[hb]? = some (.cells #[.slice (some ⟨gl, 0, none⟩) ls.length cl, .slice (some ⟨gw, 0, none⟩) ls.length cw] 41 (0, 0)) := by
              rw [HG3.out.chg.block hb hb3 (fun h => by rcases h with h | h; · exact HS1.out h
                                                        · omega), HC3.out.block hb HH.out.lt HS1.out]
              exact HH.out.blk
            have hlo : wr.ownsRow B 37 1 (.slice (some ⟨gl, 0, none⟩) ls.length cl) ls.length (ls.map Prod.fst) := by
              refine owns_chg (owns_chg HH.out.lo HC3.out (fun k hk => by cases hk; exact HS2.out)) HG3.out.chg (fun k hk h => ?_)
              obtain rfl : gl = k := Option.some.inj hk
              rcases h with h | h
              · exact HS2.out h
              · omega
            have hcb := two_cell0 hblk
            by_cases hlt : q < ls.length
            · obtain ⟨r, hr⟩ : ∃ r, ls[q]? = some r := ⟨ls[q], List.getElem?_eq_getElem hlt⟩
              obtain ⟨v, xs⟩ := r
              obtain ⟨a, c, hv, _⟩ := row_form (HG3.out.full q _ hr)
              simp only [marks_len] at hv
              subst hv
              have hcq := outer_cell hlo hr
              have hrl : xs.length ≤ 100 := HLEN.out _ (List.mem_of_getElem? hr)
              have hlt' : (q : Int) < (ls.length : Int) := by omega
              have HR : Hid _ := hr
              have hold : ∀ k, (Value.slice a xs.length c).ownBlock = some k → k < wr.heap.size := fun k hk => Nat.lt_of_lt_of_le (HLT3.out k (mem_blks (List.mem_of_getElem? hr) hk)) HG3.out.chg.size
              have HOLD : Hid _ := hold
              have hbase : B ≤ wr.heap.size := Nat.le_trans hB (Nat.le_trans HC3.out.size HG3.out.chg.size)
              clear hr hlo hblk hold
              obtain ⟨Wq, rfl⟩ : ∃ Wq, Wq = wr := ⟨_, rfl⟩
              go_wp2
              go_loopw [8, 9] (fun g k wr => ∃ (p : Nat) (zs : List ByteArray), k = .int .i64 p ∧ p ≤ 64 ∧ Hid (Gro Wq wr B q a xs.length c p g zs)) (fun _ k _ => 64 - (intOf k).toNat)
              case atStart => exact ⟨0, marks q xs.length, rfl, by omega, ⟨Chg.refl _ _, rfl, HG3.out.full q _ HR.out, HG3.out.full q _ HR.out, .inl rfl⟩⟩
              case round =>
                obtain ⟨p, zs, rfl, hp, HGr⟩ := hrel
                obtain ⟨a', c', hv, _⟩ := row_form HGr.out.row
                simp only at hv
                subst hv
                have hzl : zs.length = xs.length + p := by rw [HGr.out.eqz, marks_len]
                have hzl1 : zs.length ≤ 200 := by omega
                have hsz := HGr.out.chg.size
                clear hzl
                by_cases hltp : p < 64
                · have hltp' : (p : Int) < 64 := by omega
                  go_wp2_with (first
                    | (go_at_call 22; refine (mark_any q zs.length (by omega) (by omega) _).mono ?_; rintro e w1 ⟨rfl, hb1⟩
                       have HB1 : Hid _ := hb1
                       have HO1 : Hid (w1.ownsRow B 9 1 (.slice a' zs.length c') zs.length (zs.map Value.string)) := owns_chg HGr.out.row (Chg.of_below hb1 (fun _ => False)) (fun _ _ => id)
                       have hs1 := hb1.size
                       clear hb1)
                    | (at_builtin; refine wpList_append_rows _ rfl _ _ 37 rfl B 9 i9 (.string ByteArray.empty) 16 Tryd.underlying37 hi9 hy0 hy1 hy2 rfl (.slice a' zs.length c') zs.length (zs.map Value.string) rfl (World.ownsRow.alloc HO1.out _) ⟨_, 0, none⟩ 1 1 [.string (markB q zs.length)] rfl rfl (cell_one_new _ _ _) (fun x hx => by simp at hx; subst hx; rfl) (by decide) (by unfold maxLen; omega) (by omega) (by simp; omega) ?_; intro g' cap' w2 hown2 halt2
                       have HN : Hid _ := Gro.next HGr.out HOLD.out HB1.out hown2 halt2
                       clear hown2 halt2)
                    | fail)
                  go_roundw
                  case rel => exact ⟨p + 1, _, by go_num, by omega, HN.out⟩
                  case measure => simp [intOf]; omega
                · obtain rfl : p = 64 := by omega
                  have hgl0 : gs.length ≤ 1000 := by omega
                  have s3 := HG3.out.chg.size
                  have HOg : Hid (wr.ownsRow W3.heap.size 37 1 u4 gs.length (gs.map Prod.fst)) := by
                    refine owns_chg HG3.out.own HGr.out.chg (fun k hk e => ?_)
                    have hk2 := HG3.out.own.lt k hk
                    rcases e with e | e
                    · have := HLT3.out k (mem_blks (List.mem_of_getElem? HR.out) e)
                      omega
                    · omega
                  go_wp2_with (first
                    | (at_builtin; refine wpList_append_own_at _ rfl _ _ 39 rfl W3.heap.size 37 i0 (.slice none 0 0) 1 24 Tryd.underlying39 hi hz0 hz1 hz2 rfl (by decide) u4 gs.length (gs.map Prod.fst) rfl (World.ownsRow.alloc HOg.out _) ⟨_, 0, none⟩ 1 1 [.slice a' zs.length c'] rfl rfl (cell_one_new _ _ _) (fun x hx => by simp at hx; subst hx; rfl) (by unfold maxLen; omega) (by omega) (by simp; omega) ?_; intro gv' w2 hown2 hgrow2 _ _
                       have HN : Hid (G3 W3 w2 B ls (gs ++ [(.slice a' zs.length c', zs)]) gv') := by
                         have h1 := HR.out
                         have h2 := HGr.out
                         rw [← hgs] at h1 h2
                         exact G3.next HG3.out HND.out HLT3.out h1 h2 hown2 hgrow2 HOg.out
                       clear hown2 hgrow2)
                    | fail)
                  go_roundw
                  case rel => exact ⟨q + 1, _, by go_num, by omega, by simp; omega, HN.out⟩
                  case measure => simp [intOf]; omega
            · obtain rfl : q = ls.length := by omega
              clear hlt hq
              go_wp2
              have HL4 : Hid _ := hlo
              have hbase4 : hb < wr.heap.size := (Array.getElem?_eq_some_iff.1 hblk).1
              have hl4 : gl < wr.heap.size := (hlo.lt gl rfl).2
              have HCB : Hid _ := hcb
              clear hblk hlo hcb
              obtain ⟨W4, rfl⟩ : ∃ W4, W4 = wr := ⟨_, rfl⟩
              obtain ⟨ga, gc, hgv⟩ : ∃ ga gc, u4 = .slice ga ls.length gc := by
                rcases HG3.out.own.2 with ⟨h, h0⟩ | ⟨g', cap', _, h, _⟩
                · exact ⟨none, 0, by rw [h, ← hgs, h0]⟩
                · exact ⟨_, _, by rw [h, hgs]⟩
              subst hgv
              go_loopw [10] (fun j wr => ∃ q : Nat, j = .int .i64 q ∧ q ≤ ls.length ∧ Below W4.heap.size W4 wr) (fun j _ => ls.length - (intOf j).toNat)
              case atStart => exact ⟨0, rfl, Nat.zero_le _, Below.refl _ _⟩
              case round =>
                obtain ⟨q, rfl, hq, hb4⟩ := hrel
                by_cases hlt : q < ls.length
                · obtain ⟨r, hr⟩ : ∃ r, ls[q]? = some r := ⟨ls[q], List.getElem?_eq_getElem hlt⟩
                  obtain ⟨v, xs⟩ := r
                  obtain ⟨gr, hgr⟩ : ∃ gr, gs[q]? = some gr := ⟨gs[q]'(by omega), List.getElem?_eq_getElem _⟩
                  obtain ⟨gv1, zs⟩ := gr
                  have hfull := HG3.out.full q _ hr
                  obtain ⟨hzs, hgrow, _⟩ := HG3.out.gr q _ _ hr hgr
                  simp only at hzs
                  subst hzs
                  obtain ⟨a, c, hv, _⟩ := row_form hfull
                  simp only [marks_len] at hv
                  subst hv
                  obtain ⟨a', c', hv', _⟩ := row_form hgrow
                  simp only [marks_len] at hv'
                  subst hv'
                  obtain ⟨b', rfl, hbl'⟩ := rok_some hgrow (by rw [marks_len]; omega)
                  obtain ⟨gg, rfl, hggl⟩ : ∃ gg, ga = some ⟨gg, 0, none⟩ ∧ gg < W4.heap.size := by
                    rcases HG3.out.own.2 with ⟨h, h0⟩ | ⟨g', cap', _, h, _, hg, _⟩
                    · omega
                    · simp only [Value.slice.injEq] at h
                      exact ⟨g', h.1, (Array.getElem?_eq_some_iff.1 hg).1⟩
                  have hcg : W4.cell? ⟨gg, q, none⟩ = some (.slice (some ⟨b', 0, none⟩) (xs.length + 64) c') := by
                    have := HG3.out.own
                    rw [hgs] at this
                    exact outer_cell this hgr
                  have hcq : W4.cell? ⟨gl, q, none⟩ = some (.slice a xs.length c) := outer_cell HL4.out hr
                  have hrl : xs.length ≤ 100 := HLEN.out _ (List.mem_of_getElem? hr)
                  have hlt' : (q : Int) < (ls.length : Int) := by omega
                  have HFU : Hid _ := hfull
                  have HGW : Hid _ := hgrow
                  have hcg1 : wr.cell? ⟨gg, q, none⟩ = some (.slice (some ⟨b', 0, none⟩) (xs.length + 64) c') := by rw [hb4.cell (p := ⟨gg, q, none⟩) hggl]; exact hcg
                  have HCG : Hid _ := hcg
                  have HCQ : Hid _ := hcq
                  clear hr hgr hfull hgrow hcg hcq
                  go_wp2
                  go_loopw [11] (fun k wr => ∃ p : Nat, k = .int .i64 p ∧ p ≤ xs.length + 64 ∧ Below W4.heap.size W4 wr) (fun k _ => xs.length + 64 - (intOf k).toNat)
                  case atStart => exact ⟨0, rfl, Nat.zero_le _, hb4⟩
                  case round =>
                    obtain ⟨p, rfl, hp, hb5⟩ := hrel
                    have hcg2 : wr.cell? ⟨gg, q, none⟩ = some (.slice (some ⟨b', 0, none⟩) (xs.length + 64) c') := by rw [hb5.cell (p := ⟨gg, q, none⟩) hggl]; exact HCG.out
                    clear hcg1 hb4
                    by_cases hltp : p < xs.length + 64
                    · have hltp' : (p : Int) < (xs.length : Int) + 64 := by omega
                      have hcq2 : wr.cell? ⟨gl, q, none⟩ = some (.slice a xs.length c) := by rw [hb5.cell (p := ⟨gl, q, none⟩) hl4]; exact HCQ.out
                      have hcb2 : wr.cell? ⟨hb, 0, none⟩ = some (.slice (some ⟨gl, 0, none⟩) ls.length cl) := by rw [hb5.cell (p := ⟨hb, 0, none⟩) hbase4]; exact HCB.out
                      have hcp : wr.cell? ⟨b', p, none⟩ = some (.string (markB q p)) := by rw [hb5.cell (p := ⟨b', p, none⟩) hbl']; exact rok_cell HGW.out (marks_get hltp)
                      have HC2 : Hid (W4.cell? ⟨b', p, none⟩ = some (.string (markB q p))) := rok_cell HGW.out (marks_get hltp)
                      by_cases hpx : p < xs.length
                      · obtain ⟨b, rfl, hbl⟩ := rok_some (zs := marks q xs.length) HFU.out (by rw [marks_len]; omega)
                        have hcp2 : wr.cell? ⟨b, p, none⟩ = some (.string (markB q p)) := by rw [hb5.cell (p := ⟨b, p, none⟩) hbl]; exact rok_cell HFU.out (marks_get hpx)
                        have hpx' : (p : Int) < (xs.length : Int) := by omega
                        have HC5 : Hid (W4.cell? ⟨b, p, none⟩ = some (.string (markB q p))) := rok_cell HFU.out (marks_get hpx)
                        go_wp2
                        have HSS : Hid (∀ w', Below W4.heap.size W4 w' → w'.cell? ⟨gg, q, none⟩ = some (.slice (some ⟨b', 0, none⟩) (xs.length + 64) c') ∧ w'.cell? ⟨b', p, none⟩ = some (.string (markB q p)) ∧ w'.cell? ⟨hb, 0, none⟩ = some (.slice (some ⟨gl, 0, none⟩) ls.length cl) ∧ w'.cell? ⟨gl, q, none⟩ = some (.slice (some ⟨b, 0, none⟩) xs.length c) ∧ w'.cell? ⟨b, p, none⟩ = some (.string (markB q p))) := fun W h => ⟨(h.cell (p := ⟨gg, q, none⟩) hggl).trans HCG.out, (h.cell (p := ⟨b', p, none⟩) hbl').trans HC2.out, (h.cell (p := ⟨hb, 0, none⟩) hbase4).trans HCB.out, (h.cell (p := ⟨gl, q, none⟩) hl4).trans HCQ.out, (h.cell (p := ⟨b, p, none⟩) hbl).trans HC5.out⟩
                        have HBd : Hid (Below W4.heap.size W4 wr.drew) := hb5.drew
                        clear hb5
                        refine wp_region_held_drew (S := (fun w' => w'.cell? ⟨gg, q, none⟩ = some (.slice (some ⟨b', 0, none⟩) (xs.length + 64) c') ∧ w'.cell? ⟨b', p, none⟩ = some (.string (markB q p)) ∧ w'.cell? ⟨hb, 0, none⟩ = some (.slice (some ⟨gl, 0, none⟩) ls.length cl) ∧ w'.cell? ⟨gl, q, none⟩ = some (.slice (some ⟨b, 0, none⟩) xs.length c) ∧ w'.cell? ⟨b, p, none⟩ = some (.string (markB q p)))) (by kernel_rfl) (HSS.out _ HBd.out) (fun hHeld => ?_)
                        refine wpAnyH_take (i := 0) (v := ?va_0) rfl (by kernel_rfl) (by kernel_rfl) (by kernel_rfl) (fun _ _ _ h => h) ?hya_0 hHeld ?ha_0
                        case hya_0 => refine Or.inl ⟨by rfl, ?_⟩; intro w hSw; obtain ⟨hh1, hh2, hh3, hh4, hh5⟩ := hSw; go_simp <;> with_reducible rfl
                        simp only [List.getElem_toArray, List.getElem_cons_zero, Act.put, List.setIfInBounds_toArray, List.set_cons_zero, List.set_cons_succ]
                        refine wpAnyH_take (i := 1) (v := ?va_1) rfl (by kernel_rfl) (by kernel_rfl) (by kernel_rfl) (fun _ _ _ h => h) ?hya_1 hHeld ?ha_1
                        case hya_1 => refine Or.inl ⟨by rfl, ?_⟩; intro w hSw; obtain ⟨hh1, hh2, hh3, hh4, hh5⟩ := hSw; go_simp <;> with_reducible rfl
                        simp only [List.getElem_toArray, List.getElem_cons_succ, List.getElem_cons_zero, Act.put, List.setIfInBounds_toArray, List.set_cons_zero, List.set_cons_succ]
                        refine wpAnyH_take (i := 2) (v := ?va_2) rfl (by kernel_rfl) (by kernel_rfl) (by kernel_rfl) (fun _ _ _ h => h) ?hya_2 hHeld ?ha_2
                        case hya_2 => refine Or.inl ⟨by rfl, ?_⟩; intro w hSw; obtain ⟨hh1, hh2, hh3, hh4, hh5⟩ := hSw; go_simp <;> with_reducible rfl
                        simp only [List.getElem_toArray, List.getElem_cons_succ, List.getElem_cons_zero, Act.put, List.setIfInBounds_toArray, List.set_cons_zero, List.set_cons_succ]
                        refine wpAnyH_take (i := 3) (v := ?va_3) rfl (by kernel_rfl) (by kernel_rfl) (by kernel_rfl) (fun _ _ _ h => h) ?hya_3 hHeld ?ha_3
                        case hya_3 => refine Or.inl ⟨by rfl, ?_⟩; intro w hSw; obtain ⟨hh1, hh2, hh3, hh4, hh5⟩ := hSw; go_simp <;> with_reducible rfl
                        simp only [List.getElem_toArray, List.getElem_cons_succ, List.getElem_cons_zero, Act.put, List.setIfInBounds_toArray, List.set_cons_zero, List.set_cons_succ]
                        refine wpAnyH_take (i := 4) (v := ?va_4) rfl (by kernel_rfl) (by kernel_rfl) (by kernel_rfl) (fun _ _ _ h => h) ?hya_4 hHeld ?ha_4
                        case hya_4 => refine Or.inl ⟨by rfl, ?_⟩; intro w hSw; obtain ⟨hh1, hh2, hh3, hh4, hh5⟩ := hSw; go_simp <;> with_reducible rfl
                        simp only [List.getElem_toArray, List.getElem_cons_succ, List.getElem_cons_zero, Act.put, List.setIfInBounds_toArray, List.set_cons_zero, List.set_cons_succ]
                        refine wpAnyH_take (i := 5) (v := ?va_5) rfl (by kernel_rfl) (by kernel_rfl) (by kernel_rfl) (fun _ _ _ h => h) ?hya_5 hHeld ?ha_5
                        case hya_5 => refine Or.inl ⟨by rfl, ?_⟩; intro w hSw; obtain ⟨hh1, hh2, hh3, hh4, hh5⟩ := hSw; go_simp <;> with_reducible rfl
                        simp only [List.getElem_toArray, List.getElem_cons_succ, List.getElem_cons_zero, Act.put, List.setIfInBounds_toArray, List.set_cons_zero, List.set_cons_succ]
                        refine wpAnyH_take (i := 6) (v := ?va_6) rfl (by kernel_rfl) (by kernel_rfl) (by kernel_rfl) (fun _ _ _ h => h) ?hya_6 hHeld ?ha_6
                        case hya_6 => refine Or.inl ⟨by rfl, ?_⟩; intro w hSw; obtain ⟨hh1, hh2, hh3, hh4, hh5⟩ := hSw; go_simp <;> with_reducible rfl
                        simp only [List.getElem_toArray, List.getElem_cons_succ, List.getElem_cons_zero, Act.put, List.setIfInBounds_toArray, List.set_cons_zero, List.set_cons_succ]
                        refine wpAnyH_take (i := 7) (v := ?va_7) rfl (by kernel_rfl) (by kernel_rfl) (by kernel_rfl) (fun _ _ _ h => h) ?hya_7 hHeld ?ha_7
                        case hya_7 => refine Or.inl ⟨by rfl, ?_⟩; intro w hSw; obtain ⟨hh1, hh2, hh3, hh4, hh5⟩ := hSw; go_simp <;> with_reducible rfl
                        simp only [List.getElem_toArray, List.getElem_cons_succ, List.getElem_cons_zero, Act.put, List.setIfInBounds_toArray, List.set_cons_zero, List.set_cons_succ]
                        refine wpAnyH_take (i := 8) (v := ?va_8) rfl (by kernel_rfl) (by kernel_rfl) (by kernel_rfl) (fun _ _ _ h => h) ?hya_8 hHeld ?ha_8
                        case hya_8 => refine Or.inl ⟨by rfl, ?_⟩; intro w hSw; obtain ⟨hh1, hh2, hh3, hh4, hh5⟩ := hSw; go_simp <;> with_reducible rfl
                        simp only [List.getElem_toArray, List.getElem_cons_succ, List.getElem_cons_zero, Act.put, List.setIfInBounds_toArray, List.set_cons_zero, List.set_cons_succ]
                        refine wpAnyH_ready (rs := [9]) (by kernel_rfl) (by simp) ?_
                        refine AllReadyH.cons rfl (fun K hK => ?_) AllReadyH.nil
                        go_simp
                        refine (mark_any q p (by omega) (by omega) _).mono ?_
                        rintro e wm1 ⟨rfl, hbm⟩
                        have HBm1 : Hid (Below W4.heap.size W4 wm1) := trans2 HBd.out hbm
                        refine hK.out _ _ (HSS.out _ HBm1.out) (fun hHeld => ?_)
                        clear hK K hbm
                        try simp only [List.getElem_toArray, List.getElem_cons_succ, List.getElem_cons_zero, Act.put, List.setIfInBounds_toArray, List.set_cons_zero, List.set_cons_succ]
                        refine wpAnyH_take (i := 10) (v := ?va_10) rfl (by kernel_rfl) (by kernel_rfl) (by kernel_rfl) (fun _ _ _ h => h) ?hya_10 hHeld ?ha_10
                        case hya_10 => refine Or.inl ⟨by rfl, ?_⟩; intro w hSw; obtain ⟨hh1, hh2, hh3, hh4, hh5⟩ := hSw; go_simp <;> with_reducible rfl
                        simp only [List.getElem_toArray, List.getElem_cons_succ, List.getElem_cons_zero, Act.put, List.setIfInBounds_toArray, List.set_cons_zero, List.set_cons_succ]
                        refine wpAnyH_take (i := 11) (v := ?va_11) rfl (by kernel_rfl) (by kernel_rfl) (by kernel_rfl) (fun _ _ _ h => h) ?hya_11 hHeld ?ha_11
                        case hya_11 => refine Or.inl ⟨by rfl, ?_⟩; intro w hSw; obtain ⟨hh1, hh2, hh3, hh4, hh5⟩ := hSw; go_simp <;> with_reducible rfl
                        simp only [List.getElem_toArray, List.getElem_cons_succ, List.getElem_cons_zero, Act.put, List.setIfInBounds_toArray, List.set_cons_zero, List.set_cons_succ]
                        refine wpAnyH_take (i := 12) (v := ?va_12) rfl (by kernel_rfl) (by kernel_rfl) (by kernel_rfl) (fun _ _ _ h => h) ?hya_12 hHeld ?ha_12
                        case hya_12 => refine Or.inl ⟨by rfl, ?_⟩; intro w hSw; obtain ⟨hh1, hh2, hh3, hh4, hh5⟩ := hSw; go_simp <;> with_reducible rfl
                        simp only [List.getElem_toArray, List.getElem_cons_succ, List.getElem_cons_zero, Act.put, List.setIfInBounds_toArray, List.set_cons_zero, List.set_cons_succ]
                        refine wpAnyH_take (i := 13) (v := ?va_13) rfl (by kernel_rfl) (by kernel_rfl) (by kernel_rfl) (fun _ _ _ h => h) ?hya_13 hHeld ?ha_13
                        case hya_13 => refine Or.inl ⟨by rfl, ?_⟩; intro w hSw; obtain ⟨hh1, hh2, hh3, hh4, hh5⟩ := hSw; go_simp <;> with_reducible rfl
                        simp only [List.getElem_toArray, List.getElem_cons_succ, List.getElem_cons_zero, Act.put, List.setIfInBounds_toArray, List.set_cons_zero, List.set_cons_succ]
                        refine wpAnyH_take (i := 14) (v := ?va_14) rfl (by kernel_rfl) (by kernel_rfl) (by kernel_rfl) (fun _ _ _ h => h) ?hya_14 hHeld ?ha_14
                        case hya_14 => refine Or.inl ⟨by rfl, ?_⟩; intro w hSw; obtain ⟨hh1, hh2, hh3, hh4, hh5⟩ := hSw; go_simp <;> with_reducible rfl
                        simp only [List.getElem_toArray, List.getElem_cons_succ, List.getElem_cons_zero, Act.put, List.setIfInBounds_toArray, List.set_cons_zero, List.set_cons_succ]
                        refine wpAnyH_take (i := 15) (v := ?va_15) rfl (by kernel_rfl) (by kernel_rfl) (by kernel_rfl) (fun _ _ _ h => h) ?hya_15 hHeld ?ha_15
                        case hya_15 => refine Or.inl ⟨by rfl, ?_⟩; intro w hSw; obtain ⟨hh1, hh2, hh3, hh4, hh5⟩ := hSw; go_simp <;> with_reducible rfl
                        simp only [List.getElem_toArray, List.getElem_cons_succ, List.getElem_cons_zero, Act.put, List.setIfInBounds_toArray, List.set_cons_zero, List.set_cons_succ]
                        refine wpAnyH_take (i := 16) (v := ?va_16) rfl (by kernel_rfl) (by kernel_rfl) (by kernel_rfl) (fun _ _ _ h => h) ?hya_16 hHeld ?ha_16
                        case hya_16 => refine Or.inl ⟨by rfl, ?_⟩; intro w hSw; obtain ⟨hh1, hh2, hh3, hh4, hh5⟩ := hSw; go_simp <;> with_reducible rfl
                        simp only [List.getElem_toArray, List.getElem_cons_succ, List.getElem_cons_zero, Act.put, List.setIfInBounds_toArray, List.set_cons_zero, List.set_cons_succ]
                        refine wpAnyH_take (i := 17) (v := ?va_17) rfl (by kernel_rfl) (by kernel_rfl) (by kernel_rfl) (fun _ _ _ h => h) ?hya_17 hHeld ?ha_17
                        case hya_17 => refine Or.inl ⟨by rfl, ?_⟩; intro w hSw; obtain ⟨hh1, hh2, hh3, hh4, hh5⟩ := hSw; go_simp <;> with_reducible rfl
                        simp only [List.getElem_toArray, List.getElem_cons_succ, List.getElem_cons_zero, Act.put, List.setIfInBounds_toArray, List.set_cons_zero, List.set_cons_succ]
                        refine wpAnyH_take (i := 18) (v := ?va_18) rfl (by kernel_rfl) (by kernel_rfl) (by kernel_rfl) (fun _ _ _ h => h) ?hya_18 hHeld ?ha_18
                        case hya_18 => refine Or.inl ⟨by rfl, ?_⟩; intro w hSw; obtain ⟨hh1, hh2, hh3, hh4, hh5⟩ := hSw; go_simp <;> with_reducible rfl
                        simp only [List.getElem_toArray, List.getElem_cons_succ, List.getElem_cons_zero, Act.put, List.setIfInBounds_toArray, List.set_cons_zero, List.set_cons_succ]
                        refine wpAnyH_take (i := 19) (v := ?va_19) rfl (by kernel_rfl) (by kernel_rfl) (by kernel_rfl) (fun _ _ _ h => h) ?hya_19 hHeld ?ha_19
                        case hya_19 => refine Or.inl ⟨by rfl, ?_⟩; intro w hSw; obtain ⟨hh1, hh2, hh3, hh4, hh5⟩ := hSw; go_simp <;> with_reducible rfl
                        simp only [List.getElem_toArray, List.getElem_cons_succ, List.getElem_cons_zero, Act.put, List.setIfInBounds_toArray, List.set_cons_zero, List.set_cons_succ]
                        refine wpAnyH_take (i := 20) (v := ?va_20) rfl (by kernel_rfl) (by kernel_rfl) (by kernel_rfl) (fun _ _ _ h => h) ?hya_20 hHeld ?ha_20
                        case hya_20 => refine Or.inl ⟨by rfl, ?_⟩; intro w hSw; obtain ⟨hh1, hh2, hh3, hh4, hh5⟩ := hSw; go_simp <;> with_reducible rfl
                        simp only [List.getElem_toArray, List.getElem_cons_succ, List.getElem_cons_zero, Act.put, List.setIfInBounds_toArray, List.set_cons_zero, List.set_cons_succ]
                        refine wpAnyH_take (i := 21) (v := ?va_21) rfl (by kernel_rfl) (by kernel_rfl) (by kernel_rfl) (fun _ _ _ h => h) ?hya_21 hHeld ?ha_21
                        case hya_21 => refine Or.inl ⟨by rfl, ?_⟩; intro w hSw; obtain ⟨hh1, hh2, hh3, hh4, hh5⟩ := hSw; go_simp <;> with_reducible rfl
                        simp only [List.getElem_toArray, List.getElem_cons_succ, List.getElem_cons_zero, Act.put, List.setIfInBounds_toArray, List.set_cons_zero, List.set_cons_succ]
                        refine wpAnyH_take (i := 22) (v := ?va_22) rfl (by kernel_rfl) (by kernel_rfl) (by kernel_rfl) (fun _ _ _ h => h) ?hya_22 hHeld ?ha_22
                        case hya_22 => refine Or.inl ⟨by rfl, ?_⟩; intro w hSw; obtain ⟨hh1, hh2, hh3, hh4, hh5⟩ := hSw; go_simp <;> with_reducible rfl
                        simp only [List.getElem_toArray, List.getElem_cons_succ, List.getElem_cons_zero, Act.put, List.setIfInBounds_toArray, List.set_cons_zero, List.set_cons_succ]
                        refine wpAnyH_take (i := 23) (v := ?va_23) rfl (by kernel_rfl) (by kernel_rfl) (by kernel_rfl) (fun _ _ _ h => h) ?hya_23 hHeld ?ha_23
                        case hya_23 => refine Or.inl ⟨by rfl, ?_⟩; intro w hSw; obtain ⟨hh1, hh2, hh3, hh4, hh5⟩ := hSw; go_simp <;> with_reducible rfl
                        simp only [List.getElem_toArray, List.getElem_cons_succ, List.getElem_cons_zero, Act.put, List.setIfInBounds_toArray, List.set_cons_zero, List.set_cons_succ]
                        refine wpAnyH_take (i := 24) (v := ?va_24) rfl (by kernel_rfl) (by kernel_rfl) (by kernel_rfl) (fun _ _ _ h => h) ?hya_24 hHeld ?ha_24
                        case hya_24 => refine Or.inl ⟨by rfl, ?_⟩; intro w hSw; obtain ⟨hh1, hh2, hh3, hh4, hh5⟩ := hSw; go_simp <;> with_reducible rfl
                        simp only [List.getElem_toArray, List.getElem_cons_succ, List.getElem_cons_zero, Act.put, List.setIfInBounds_toArray, List.set_cons_zero, List.set_cons_succ]
                        refine wpAnyH_take (i := 25) (v := ?va_25) rfl (by kernel_rfl) (by kernel_rfl) (by kernel_rfl) (fun _ _ _ h => h) ?hya_25 hHeld ?ha_25
                        case hya_25 => refine Or.inl ⟨by rfl, ?_⟩; intro w hSw; obtain ⟨hh1, hh2, hh3, hh4, hh5⟩ := hSw; go_simp <;> with_reducible rfl
                        simp only [List.getElem_toArray, List.getElem_cons_succ, List.getElem_cons_zero, Act.put, List.setIfInBounds_toArray, List.set_cons_zero, List.set_cons_succ]
                        refine wpAnyH_take (i := 26) (v := ?va_26) rfl (by kernel_rfl) (by kernel_rfl) (by kernel_rfl) (fun _ _ _ h => h) ?hya_26 hHeld ?ha_26
                        case hya_26 => refine Or.inl ⟨by rfl, ?_⟩; intro w hSw; obtain ⟨hh1, hh2, hh3, hh4, hh5⟩ := hSw; go_simp <;> with_reducible rfl
                        simp only [List.getElem_toArray, List.getElem_cons_succ, List.getElem_cons_zero, Act.put, List.setIfInBounds_toArray, List.set_cons_zero, List.set_cons_succ]
                        refine wpAnyH_take (i := 27) (v := ?va_27) rfl (by kernel_rfl) (by kernel_rfl) (by kernel_rfl) (fun _ _ _ h => h) ?hya_27 hHeld ?ha_27
                        case hya_27 => refine Or.inl ⟨by rfl, ?_⟩; intro w hSw; obtain ⟨hh1, hh2, hh3, hh4, hh5⟩ := hSw; go_simp <;> with_reducible rfl
                        simp only [List.getElem_toArray, List.getElem_cons_succ, List.getElem_cons_zero, Act.put, List.setIfInBounds_toArray, List.set_cons_zero, List.set_cons_succ]
                        refine wpAnyH_take (i := 28) (v := ?va_28) rfl (by kernel_rfl) (by kernel_rfl) (by kernel_rfl) (fun _ _ _ h => h) ?hya_28 hHeld ?ha_28
                        case hya_28 => refine Or.inl ⟨by rfl, ?_⟩; intro w hSw; obtain ⟨hh1, hh2, hh3, hh4, hh5⟩ := hSw; go_simp <;> with_reducible rfl
                        simp only [List.getElem_toArray, List.getElem_cons_succ, List.getElem_cons_zero, Act.put, List.setIfInBounds_toArray, List.set_cons_zero, List.set_cons_succ]
                        refine wpAnyH_take (i := 29) (v := ?va_29) rfl (by kernel_rfl) (by kernel_rfl) (by kernel_rfl) (fun _ _ _ h => h) ?hya_29 hHeld ?ha_29
                        case hya_29 => refine Or.inl ⟨by rfl, ?_⟩; intro w hSw; obtain ⟨hh1, hh2, hh3, hh4, hh5⟩ := hSw; go_simp <;> with_reducible rfl
                        simp only [List.getElem_toArray, List.getElem_cons_succ, List.getElem_cons_zero, Act.put, List.setIfInBounds_toArray, List.set_cons_zero, List.set_cons_succ]
                        refine wpAnyH_take (i := 30) (v := ?va_30) rfl (by kernel_rfl) (by kernel_rfl) (by kernel_rfl) (fun _ _ _ h => h) ?hya_30 hHeld ?ha_30
                        case hya_30 => refine Or.inl ⟨by rfl, ?_⟩; intro w hSw; obtain ⟨hh1, hh2, hh3, hh4, hh5⟩ := hSw; go_simp <;> with_reducible rfl
                        simp only [List.getElem_toArray, List.getElem_cons_succ, List.getElem_cons_zero, Act.put, List.setIfInBounds_toArray, List.set_cons_zero, List.set_cons_succ]
                        refine wpAnyH_take (i := 31) (v := ?va_31) rfl (by kernel_rfl) (by kernel_rfl) (by kernel_rfl) (fun _ _ _ h => h) ?hya_31 hHeld ?ha_31
                        case hya_31 => refine Or.inl ⟨by rfl, ?_⟩; intro w hSw; obtain ⟨hh1, hh2, hh3, hh4, hh5⟩ := hSw; go_simp <;> with_reducible rfl
                        simp only [List.getElem_toArray, List.getElem_cons_succ, List.getElem_cons_zero, Act.put, List.setIfInBounds_toArray, List.set_cons_zero, List.set_cons_succ]
                        refine wpAnyH_take (i := 32) (v := ?va_32) rfl (by kernel_rfl) (by kernel_rfl) (by kernel_rfl) (fun _ _ _ h => h) ?hya_32 hHeld ?ha_32
                        case hya_32 => refine Or.inl ⟨by rfl, ?_⟩; intro w hSw; obtain ⟨hh1, hh2, hh3, hh4, hh5⟩ := hSw; go_simp <;> with_reducible rfl
                        simp only [List.getElem_toArray, List.getElem_cons_succ, List.getElem_cons_zero, Act.put, List.setIfInBounds_toArray, List.set_cons_zero, List.set_cons_succ]
                        refine wpAnyH_take (i := 33) (v := ?va_33) rfl (by kernel_rfl) (by kernel_rfl) (by kernel_rfl) (fun _ _ _ h => h) ?hya_33 hHeld ?ha_33
                        case hya_33 => refine Or.inl ⟨by rfl, ?_⟩; intro w hSw; obtain ⟨hh1, hh2, hh3, hh4, hh5⟩ := hSw; go_simp <;> with_reducible rfl
                        simp only [List.getElem_toArray, List.getElem_cons_succ, List.getElem_cons_zero, Act.put, List.setIfInBounds_toArray, List.set_cons_zero, List.set_cons_succ]
                        refine wpAnyH_take (i := 34) (v := ?va_34) rfl (by kernel_rfl) (by kernel_rfl) (by kernel_rfl) (fun _ _ _ h => h) ?hya_34 hHeld ?ha_34
                        case hya_34 => refine Or.inl ⟨by rfl, ?_⟩; intro w hSw; obtain ⟨hh1, hh2, hh3, hh4, hh5⟩ := hSw; go_simp <;> with_reducible rfl
                        simp only [List.getElem_toArray, List.getElem_cons_succ, List.getElem_cons_zero, Act.put, List.setIfInBounds_toArray, List.set_cons_zero, List.set_cons_succ]
                        refine wpAnyH_ready (rs := [35]) (by kernel_rfl) (by simp) ?_
                        refine AllReadyH.cons rfl (fun K hK => ?_) AllReadyH.nil
                        go_simp
                        refine (mark_any q p (by omega) (by omega) _).mono ?_
                        rintro e wm2 ⟨rfl, hbm⟩
                        have HBm2 : Hid (Below W4.heap.size W4 wm2) := trans2 HBm1.out hbm
                        refine hK.out _ _ (HSS.out _ HBm2.out) (fun hHeld => ?_)
                        clear hK K hbm
                        try simp only [List.getElem_toArray, List.getElem_cons_succ, List.getElem_cons_zero, Act.put, List.setIfInBounds_toArray, List.set_cons_zero, List.set_cons_succ]
                        refine wpAnyH_take (i := 36) (v := ?va_36) rfl (by kernel_rfl) (by kernel_rfl) (by kernel_rfl) (fun _ _ _ h => h) ?hya_36 hHeld ?ha_36
                        case hya_36 => refine Or.inl ⟨by rfl, ?_⟩; intro w hSw; obtain ⟨hh1, hh2, hh3, hh4, hh5⟩ := hSw; go_simp <;> with_reducible rfl
                        simp only [List.getElem_toArray, List.getElem_cons_succ, List.getElem_cons_zero, Act.put, List.setIfInBounds_toArray, List.set_cons_zero, List.set_cons_succ]
                        refine wpAnyH_take (i := 37) (v := ?va_37) rfl (by kernel_rfl) (by kernel_rfl) (by kernel_rfl) (fun _ _ _ h => h) ?hya_37 hHeld ?ha_37
                        case hya_37 => refine Or.inl ⟨by rfl, ?_⟩; intro w hSw; obtain ⟨hh1, hh2, hh3, hh4, hh5⟩ := hSw; go_simp <;> with_reducible rfl
                        simp only [List.getElem_toArray, List.getElem_cons_succ, List.getElem_cons_zero, Act.put, List.setIfInBounds_toArray, List.set_cons_zero, List.set_cons_succ]
                        refine wpAnyH_take (i := 38) (v := ?va_38) rfl (by kernel_rfl) (by kernel_rfl) (by kernel_rfl) (fun _ _ _ h => h) ?hya_38 hHeld ?ha_38
                        case hya_38 => refine Or.inl ⟨by rfl, ?_⟩; intro w hSw; obtain ⟨hh1, hh2, hh3, hh4, hh5⟩ := hSw; go_simp <;> with_reducible rfl
                        simp only [List.getElem_toArray, List.getElem_cons_succ, List.getElem_cons_zero, Act.put, List.setIfInBounds_toArray, List.set_cons_zero, List.set_cons_succ]
                        refine wpAnyH_done (by kernel_rfl) ?_ _
                        go_wp2
                        go_roundw
                        case rel => exact ⟨p + 1, by go_num, by omega, HBm2.out⟩
                        case measure => simp [intOf]; omega
                      · have hpx' : ¬ (p : Int) < (xs.length : Int) := by omega
                        have hpd : decide ((p : Int) < (xs.length : Int)) = false := by simpa using hpx'
                        have hpe : (xs.length : Int) ≤ (p : Int) := by omega
                        go_wp2
                        have HSS : Hid (∀ w', Below W4.heap.size W4 w' → w'.cell? ⟨gg, q, none⟩ = some (.slice (some ⟨b', 0, none⟩) (xs.length + 64) c') ∧ w'.cell? ⟨b', p, none⟩ = some (.string (markB q p)) ∧ w'.cell? ⟨hb, 0, none⟩ = some (.slice (some ⟨gl, 0, none⟩) ls.length cl) ∧ w'.cell? ⟨gl, q, none⟩ = some (.slice a xs.length c)) := fun W h => ⟨(h.cell (p := ⟨gg, q, none⟩) hggl).trans HCG.out, (h.cell (p := ⟨b', p, none⟩) hbl').trans HC2.out, (h.cell (p := ⟨hb, 0, none⟩) hbase4).trans HCB.out, (h.cell (p := ⟨gl, q, none⟩) hl4).trans HCQ.out⟩
                        have HBd : Hid (Below W4.heap.size W4 wr.drew) := hb5.drew
                        clear hb5
                        refine wp_region_held_drew (S := (fun w' => w'.cell? ⟨gg, q, none⟩ = some (.slice (some ⟨b', 0, none⟩) (xs.length + 64) c') ∧ w'.cell? ⟨b', p, none⟩ = some (.string (markB q p)) ∧ w'.cell? ⟨hb, 0, none⟩ = some (.slice (some ⟨gl, 0, none⟩) ls.length cl) ∧ w'.cell? ⟨gl, q, none⟩ = some (.slice a xs.length c))) (by kernel_rfl) (HSS.out _ HBd.out) (fun hHeld => ?_)
                        refine wpAnyH_take (i := 0) (v := ?vb_0) rfl (by kernel_rfl) (by kernel_rfl) (by kernel_rfl) (fun _ _ _ h => h) ?hyb_0 hHeld ?hb_0
                        case hyb_0 => refine Or.inl ⟨by rfl, ?_⟩; intro w hSw; obtain ⟨hh1, hh2, hh3, hh4⟩ := hSw; go_simp <;> with_reducible rfl
                        simp only [List.getElem_toArray, List.getElem_cons_zero, Act.put, List.setIfInBounds_toArray, List.set_cons_zero, List.set_cons_succ]
                        refine wpAnyH_take (i := 1) (v := ?vb_1) rfl (by kernel_rfl) (by kernel_rfl) (by kernel_rfl) (fun _ _ _ h => h) ?hyb_1 hHeld ?hb_1
                        case hyb_1 => refine Or.inl ⟨by rfl, ?_⟩; intro w hSw; obtain ⟨hh1, hh2, hh3, hh4⟩ := hSw; go_simp <;> with_reducible rfl
                        simp only [List.getElem_toArray, List.getElem_cons_succ, List.getElem_cons_zero, Act.put, List.setIfInBounds_toArray, List.set_cons_zero, List.set_cons_succ]
                        refine wpAnyH_take (i := 2) (v := ?vb_2) rfl (by kernel_rfl) (by kernel_rfl) (by kernel_rfl) (fun _ _ _ h => h) ?hyb_2 hHeld ?hb_2
                        case hyb_2 => refine Or.inl ⟨by rfl, ?_⟩; intro w hSw; obtain ⟨hh1, hh2, hh3, hh4⟩ := hSw; go_simp <;> with_reducible rfl
                        simp only [List.getElem_toArray, List.getElem_cons_succ, List.getElem_cons_zero, Act.put, List.setIfInBounds_toArray, List.set_cons_zero, List.set_cons_succ]
                        refine wpAnyH_take (i := 3) (v := ?vb_3) rfl (by kernel_rfl) (by kernel_rfl) (by kernel_rfl) (fun _ _ _ h => h) ?hyb_3 hHeld ?hb_3
                        case hyb_3 => refine Or.inl ⟨by rfl, ?_⟩; intro w hSw; obtain ⟨hh1, hh2, hh3, hh4⟩ := hSw; go_simp <;> with_reducible rfl
                        simp only [List.getElem_toArray, List.getElem_cons_succ, List.getElem_cons_zero, Act.put, List.setIfInBounds_toArray, List.set_cons_zero, List.set_cons_succ]
                        refine wpAnyH_take (i := 4) (v := ?vb_4) rfl (by kernel_rfl) (by kernel_rfl) (by kernel_rfl) (fun _ _ _ h => h) ?hyb_4 hHeld ?hb_4
                        case hyb_4 => refine Or.inl ⟨by rfl, ?_⟩; intro w hSw; obtain ⟨hh1, hh2, hh3, hh4⟩ := hSw; go_simp <;> with_reducible rfl
                        simp only [List.getElem_toArray, List.getElem_cons_succ, List.getElem_cons_zero, Act.put, List.setIfInBounds_toArray, List.set_cons_zero, List.set_cons_succ]
                        refine wpAnyH_take (i := 5) (v := ?vb_5) rfl (by kernel_rfl) (by kernel_rfl) (by kernel_rfl) (fun _ _ _ h => h) ?hyb_5 hHeld ?hb_5
                        case hyb_5 => refine Or.inl ⟨by rfl, ?_⟩; intro w hSw; obtain ⟨hh1, hh2, hh3, hh4⟩ := hSw; go_simp <;> with_reducible rfl
                        simp only [List.getElem_toArray, List.getElem_cons_succ, List.getElem_cons_zero, Act.put, List.setIfInBounds_toArray, List.set_cons_zero, List.set_cons_succ]
                        refine wpAnyH_take (i := 6) (v := ?vb_6) rfl (by kernel_rfl) (by kernel_rfl) (by kernel_rfl) (fun _ _ _ h => h) ?hyb_6 hHeld ?hb_6
                        case hyb_6 => refine Or.inl ⟨by rfl, ?_⟩; intro w hSw; obtain ⟨hh1, hh2, hh3, hh4⟩ := hSw; go_simp <;> with_reducible rfl
                        simp only [List.getElem_toArray, List.getElem_cons_succ, List.getElem_cons_zero, Act.put, List.setIfInBounds_toArray, List.set_cons_zero, List.set_cons_succ]
                        refine wpAnyH_take (i := 7) (v := ?vb_7) rfl (by kernel_rfl) (by kernel_rfl) (by kernel_rfl) (fun _ _ _ h => h) ?hyb_7 hHeld ?hb_7
                        case hyb_7 => refine Or.inl ⟨by rfl, ?_⟩; intro w hSw; obtain ⟨hh1, hh2, hh3, hh4⟩ := hSw; go_simp <;> with_reducible rfl
                        simp only [List.getElem_toArray, List.getElem_cons_succ, List.getElem_cons_zero, Act.put, List.setIfInBounds_toArray, List.set_cons_zero, List.set_cons_succ]
                        refine wpAnyH_take (i := 8) (v := ?vb_8) rfl (by kernel_rfl) (by kernel_rfl) (by kernel_rfl) (fun _ _ _ h => h) ?hyb_8 hHeld ?hb_8
                        case hyb_8 => refine Or.inl ⟨by rfl, ?_⟩; intro w hSw; obtain ⟨hh1, hh2, hh3, hh4⟩ := hSw; go_simp <;> with_reducible rfl
                        simp only [List.getElem_toArray, List.getElem_cons_succ, List.getElem_cons_zero, Act.put, List.setIfInBounds_toArray, List.set_cons_zero, List.set_cons_succ]
                        refine wpAnyH_ready (rs := [9]) (by kernel_rfl) (by simp) ?_
                        refine AllReadyH.cons rfl (fun K hK => ?_) AllReadyH.nil
                        go_simp
                        refine (mark_any q p (by omega) (by omega) _).mono ?_
                        rintro e wm1 ⟨rfl, hbm⟩
                        have HBm1 : Hid (Below W4.heap.size W4 wm1) := trans2 HBd.out hbm
                        refine hK.out _ _ (HSS.out _ HBm1.out) (fun hHeld => ?_)
                        clear hK K hbm
                        try simp only [List.getElem_toArray, List.getElem_cons_succ, List.getElem_cons_zero, Act.put, List.setIfInBounds_toArray, List.set_cons_zero, List.set_cons_succ]
                        refine wpAnyH_take (i := 10) (v := ?vb_10) rfl (by kernel_rfl) (by kernel_rfl) (by kernel_rfl) (fun _ _ _ h => h) ?hyb_10 hHeld ?hb_10
                        case hyb_10 => refine Or.inl ⟨by rfl, ?_⟩; intro w hSw; obtain ⟨hh1, hh2, hh3, hh4⟩ := hSw; go_simp <;> with_reducible rfl
                        simp only [List.getElem_toArray, List.getElem_cons_succ, List.getElem_cons_zero, Act.put, List.setIfInBounds_toArray, List.set_cons_zero, List.set_cons_succ]
                        refine wpAnyH_take (i := 11) (v := ?vb_11) rfl (by kernel_rfl) (by kernel_rfl) (by kernel_rfl) (fun _ _ _ h => h) ?hyb_11 hHeld ?hb_11
                        case hyb_11 => refine Or.inl ⟨by rfl, ?_⟩; intro w hSw; obtain ⟨hh1, hh2, hh3, hh4⟩ := hSw; go_simp <;> with_reducible rfl
                        simp only [List.getElem_toArray, List.getElem_cons_succ, List.getElem_cons_zero, Act.put, List.setIfInBounds_toArray, List.set_cons_zero, List.set_cons_succ]
                        refine wpAnyH_take (i := 12) (v := ?vb_12) rfl (by kernel_rfl) (by kernel_rfl) (by kernel_rfl) (fun _ _ _ h => h) ?hyb_12 hHeld ?hb_12
                        case hyb_12 => refine Or.inl ⟨by rfl, ?_⟩; intro w hSw; obtain ⟨hh1, hh2, hh3, hh4⟩ := hSw; go_simp <;> with_reducible rfl
                        simp only [List.getElem_toArray, List.getElem_cons_succ, List.getElem_cons_zero, Act.put, List.setIfInBounds_toArray, List.set_cons_zero, List.set_cons_succ]
                        refine wpAnyH_take (i := 13) (v := ?vb_13) rfl (by kernel_rfl) (by kernel_rfl) (by kernel_rfl) (fun _ _ _ h => h) ?hyb_13 hHeld ?hb_13
                        case hyb_13 => refine Or.inl ⟨by rfl, ?_⟩; intro w hSw; obtain ⟨hh1, hh2, hh3, hh4⟩ := hSw; go_simp <;> with_reducible rfl
                        simp only [List.getElem_toArray, List.getElem_cons_succ, List.getElem_cons_zero, Act.put, List.setIfInBounds_toArray, List.set_cons_zero, List.set_cons_succ]
                        refine wpAnyH_take (i := 14) (v := ?vb_14) rfl (by kernel_rfl) (by kernel_rfl) (by kernel_rfl) (fun _ _ _ h => h) ?hyb_14 hHeld ?hb_14
                        case hyb_14 => refine Or.inl ⟨by rfl, ?_⟩; intro w hSw; obtain ⟨hh1, hh2, hh3, hh4⟩ := hSw; go_simp <;> with_reducible rfl
                        simp only [List.getElem_toArray, List.getElem_cons_succ, List.getElem_cons_zero, Act.put, List.setIfInBounds_toArray, List.set_cons_zero, List.set_cons_succ]
                        refine wpAnyH_take (i := 15) (v := ?vb_15) rfl (by kernel_rfl) (by kernel_rfl) (by kernel_rfl) (fun _ _ _ h => h) ?hyb_15 hHeld ?hb_15
                        case hyb_15 => refine Or.inl ⟨by rfl, ?_⟩; intro w hSw; obtain ⟨hh1, hh2, hh3, hh4⟩ := hSw; go_simp <;> with_reducible rfl
                        simp only [List.getElem_toArray, List.getElem_cons_succ, List.getElem_cons_zero, Act.put, List.setIfInBounds_toArray, List.set_cons_zero, List.set_cons_succ]
                        refine wpAnyH_take (i := 16) (v := ?vb_16) rfl (by kernel_rfl) (by kernel_rfl) (by kernel_rfl) (fun _ _ _ h => h) ?hyb_16 hHeld ?hb_16
                        case hyb_16 => refine Or.inl ⟨by rfl, ?_⟩; intro w hSw; obtain ⟨hh1, hh2, hh3, hh4⟩ := hSw; go_simp <;> with_reducible rfl
                        simp only [List.getElem_toArray, List.getElem_cons_succ, List.getElem_cons_zero, Act.put, List.setIfInBounds_toArray, List.set_cons_zero, List.set_cons_succ]
                        refine wpAnyH_take (i := 17) (v := ?vb_17) rfl (by kernel_rfl) (by kernel_rfl) (by kernel_rfl) (fun _ _ _ h => h) ?hyb_17 hHeld ?hb_17
                        case hyb_17 => refine Or.inl ⟨by rfl, ?_⟩; intro w hSw; obtain ⟨hh1, hh2, hh3, hh4⟩ := hSw; go_simp <;> with_reducible rfl
                        simp only [List.getElem_toArray, List.getElem_cons_succ, List.getElem_cons_zero, Act.put, List.setIfInBounds_toArray, List.set_cons_zero, List.set_cons_succ]
                        refine wpAnyH_take (i := 18) (v := ?vb_18) rfl (by kernel_rfl) (by kernel_rfl) (by kernel_rfl) (fun _ _ _ h => h) ?hyb_18 hHeld ?hb_18
                        case hyb_18 => refine Or.inl ⟨by rfl, ?_⟩; intro w hSw; obtain ⟨hh1, hh2, hh3, hh4⟩ := hSw; go_simp <;> with_reducible rfl
                        simp only [List.getElem_toArray, List.getElem_cons_succ, List.getElem_cons_zero, Act.put, List.setIfInBounds_toArray, List.set_cons_zero, List.set_cons_succ]
                        refine wpAnyH_take (i := 19) (v := ?vb_19) rfl (by kernel_rfl) (by kernel_rfl) (by kernel_rfl) (fun _ _ _ h => h) ?hyb_19 hHeld ?hb_19
                        case hyb_19 => refine Or.inl ⟨by rfl, ?_⟩; intro w hSw; obtain ⟨hh1, hh2, hh3, hh4⟩ := hSw; go_simp <;> with_reducible rfl
                        simp only [List.getElem_toArray, List.getElem_cons_succ, List.getElem_cons_zero, Act.put, List.setIfInBounds_toArray, List.set_cons_zero, List.set_cons_succ]
                        refine wpAnyH_take (i := 20) (v := ?vb_20) rfl (by kernel_rfl) (by kernel_rfl) (by kernel_rfl) (fun _ _ _ h => h) ?hyb_20 hHeld ?hb_20
                        case hyb_20 => refine Or.inl ⟨by rfl, ?_⟩; intro w hSw; obtain ⟨hh1, hh2, hh3, hh4⟩ := hSw; go_simp <;> with_reducible rfl
                        simp only [List.getElem_toArray, List.getElem_cons_succ, List.getElem_cons_zero, Act.put, List.setIfInBounds_toArray, List.set_cons_zero, List.set_cons_succ]
                        refine wpAnyH_take (i := 21) (v := ?vb_21) rfl (by kernel_rfl) (by kernel_rfl) (by kernel_rfl) (fun _ _ _ h => h) ?hyb_21 hHeld ?hb_21
                        case hyb_21 => refine Or.inl ⟨by rfl, ?_⟩; intro w hSw; obtain ⟨hh1, hh2, hh3, hh4⟩ := hSw; go_simp <;> with_reducible rfl
                        simp only [List.getElem_toArray, List.getElem_cons_succ, List.getElem_cons_zero, Act.put, List.setIfInBounds_toArray, List.set_cons_zero, List.set_cons_succ]
                        refine wpAnyH_take (i := 22) (v := ?vb_22) rfl (by kernel_rfl) (by kernel_rfl) (by kernel_rfl) (fun _ _ _ h => h) ?hyb_22 hHeld ?hb_22
                        case hyb_22 => refine Or.inl ⟨by rfl, ?_⟩; intro w hSw; obtain ⟨hh1, hh2, hh3, hh4⟩ := hSw; go_simp <;> with_reducible rfl
                        simp only [List.getElem_toArray, List.getElem_cons_succ, List.getElem_cons_zero, Act.put, List.setIfInBounds_toArray, List.set_cons_zero, List.set_cons_succ]
                        refine wpAnyH_take (i := 23) (v := undef) rfl (by kernel_rfl) (by kernel_rfl) (by kernel_rfl) (fun _ _ _ h => h) ?hyb_23 hHeld ?hb_23
                        case hyb_23 => exact Or.inr ⟨by rfl, rfl⟩
                        try simp only [List.getElem_toArray, List.getElem_cons_succ, List.getElem_cons_zero, Act.put, List.setIfInBounds_toArray, List.set_cons_zero, List.set_cons_succ]
                        refine wpAnyH_take (i := 24) (v := undef) rfl (by kernel_rfl) (by kernel_rfl) (by kernel_rfl) (fun _ _ _ h => h) ?hyb_24 hHeld ?hb_24
                        case hyb_24 => exact Or.inr ⟨by rfl, rfl⟩
                        try simp only [List.getElem_toArray, List.getElem_cons_succ, List.getElem_cons_zero, Act.put, List.setIfInBounds_toArray, List.set_cons_zero, List.set_cons_succ]
                        refine wpAnyH_take (i := 25) (v := undef) rfl (by kernel_rfl) (by kernel_rfl) (by kernel_rfl) (fun _ _ _ h => h) ?hyb_25 hHeld ?hb_25
                        case hyb_25 => exact Or.inr ⟨by rfl, rfl⟩
                        try simp only [List.getElem_toArray, List.getElem_cons_succ, List.getElem_cons_zero, Act.put, List.setIfInBounds_toArray, List.set_cons_zero, List.set_cons_succ]
                        refine wpAnyH_take (i := 26) (v := undef) rfl (by kernel_rfl) (by kernel_rfl) (by kernel_rfl) (fun _ _ _ h => h) ?hyb_26 hHeld ?hb_26
                        case hyb_26 => exact Or.inr ⟨by rfl, rfl⟩
                        try simp only [List.getElem_toArray, List.getElem_cons_succ, List.getElem_cons_zero, Act.put, List.setIfInBounds_toArray, List.set_cons_zero, List.set_cons_succ]
                        refine wpAnyH_take (i := 27) (v := undef) rfl (by kernel_rfl) (by kernel_rfl) (by kernel_rfl) (fun _ _ _ h => h) ?hyb_27 hHeld ?hb_27
                        case hyb_27 => exact Or.inr ⟨by rfl, rfl⟩
                        try simp only [List.getElem_toArray, List.getElem_cons_succ, List.getElem_cons_zero, Act.put, List.setIfInBounds_toArray, List.set_cons_zero, List.set_cons_succ]
                        refine wpAnyH_take (i := 28) (v := undef) rfl (by kernel_rfl) (by kernel_rfl) (by kernel_rfl) (fun _ _ _ h => h) ?hyb_28 hHeld ?hb_28
                        case hyb_28 => exact Or.inr ⟨by rfl, rfl⟩
                        try simp only [List.getElem_toArray, List.getElem_cons_succ, List.getElem_cons_zero, Act.put, List.setIfInBounds_toArray, List.set_cons_zero, List.set_cons_succ]
                        refine wpAnyH_take (i := 29) (v := undef) rfl (by kernel_rfl) (by kernel_rfl) (by kernel_rfl) (fun _ _ _ h => h) ?hyb_29 hHeld ?hb_29
                        case hyb_29 => exact Or.inr ⟨by rfl, rfl⟩
                        try simp only [List.getElem_toArray, List.getElem_cons_succ, List.getElem_cons_zero, Act.put, List.setIfInBounds_toArray, List.set_cons_zero, List.set_cons_succ]
                        refine wpAnyH_take (i := 30) (v := undef) rfl (by kernel_rfl) (by kernel_rfl) (by kernel_rfl) (fun _ _ _ h => h) ?hyb_30 hHeld ?hb_30
                        case hyb_30 => exact Or.inr ⟨by rfl, rfl⟩
                        try simp only [List.getElem_toArray, List.getElem_cons_succ, List.getElem_cons_zero, Act.put, List.setIfInBounds_toArray, List.set_cons_zero, List.set_cons_succ]
                        refine wpAnyH_take (i := 31) (v := undef) rfl (by kernel_rfl) (by kernel_rfl) (by kernel_rfl) (fun _ _ _ h => h) ?hyb_31 hHeld ?hb_31
                        case hyb_31 => exact Or.inr ⟨by rfl, rfl⟩
                        try simp only [List.getElem_toArray, List.getElem_cons_succ, List.getElem_cons_zero, Act.put, List.setIfInBounds_toArray, List.set_cons_zero, List.set_cons_succ]
                        refine wpAnyH_take (i := 32) (v := undef) rfl (by kernel_rfl) (by kernel_rfl) (by kernel_rfl) (fun _ _ _ h => h) ?hyb_32 hHeld ?hb_32
                        case hyb_32 => exact Or.inr ⟨by rfl, rfl⟩
                        try simp only [List.getElem_toArray, List.getElem_cons_succ, List.getElem_cons_zero, Act.put, List.setIfInBounds_toArray, List.set_cons_zero, List.set_cons_succ]
                        refine wpAnyH_take (i := 33) (v := undef) rfl (by kernel_rfl) (by kernel_rfl) (by kernel_rfl) (fun _ _ _ h => h) ?hyb_33 hHeld ?hb_33
                        case hyb_33 => exact Or.inr ⟨by rfl, rfl⟩
                        try simp only [List.getElem_toArray, List.getElem_cons_succ, List.getElem_cons_zero, Act.put, List.setIfInBounds_toArray, List.set_cons_zero, List.set_cons_succ]
                        refine wpAnyH_take (i := 34) (v := undef) rfl (by kernel_rfl) (by kernel_rfl) (by kernel_rfl) (fun _ _ _ h => h) ?hyb_34 hHeld ?hb_34
                        case hyb_34 => exact Or.inr ⟨by rfl, rfl⟩
                        try simp only [List.getElem_toArray, List.getElem_cons_succ, List.getElem_cons_zero, Act.put, List.setIfInBounds_toArray, List.set_cons_zero, List.set_cons_succ]
                        refine wpAnyH_take (i := 35) (v := undef) rfl (by kernel_rfl) (by kernel_rfl) (by kernel_rfl) (fun _ _ _ h => h) ?hyb_35 hHeld ?hb_35
                        case hyb_35 => exact Or.inr ⟨by rfl, rfl⟩
                        try simp only [List.getElem_toArray, List.getElem_cons_succ, List.getElem_cons_zero, Act.put, List.setIfInBounds_toArray, List.set_cons_zero, List.set_cons_succ]
                        refine wpAnyH_take (i := 36) (v := undef) rfl (by kernel_rfl) (by kernel_rfl) (by kernel_rfl) (fun _ _ _ h => h) ?hyb_36 hHeld ?hb_36
                        case hyb_36 => exact Or.inr ⟨by rfl, rfl⟩
                        try simp only [List.getElem_toArray, List.getElem_cons_succ, List.getElem_cons_zero, Act.put, List.setIfInBounds_toArray, List.set_cons_zero, List.set_cons_succ]
                        refine wpAnyH_take (i := 37) (v := ?vb_37) rfl (by kernel_rfl) (by kernel_rfl) (by kernel_rfl) (fun _ _ _ h => h) ?hyb_37 hHeld ?hb_37
                        case hyb_37 => refine Or.inl ⟨by rfl, ?_⟩; intro w hSw; obtain ⟨hh1, hh2, hh3, hh4⟩ := hSw; go_simp <;> with_reducible rfl
                        simp only [List.getElem_toArray, List.getElem_cons_succ, List.getElem_cons_zero, Act.put, List.setIfInBounds_toArray, List.set_cons_zero, List.set_cons_succ]
                        refine wpAnyH_take (i := 38) (v := ?vb_38) rfl (by kernel_rfl) (by kernel_rfl) (by kernel_rfl) (fun _ _ _ h => h) ?hyb_38 hHeld ?hb_38
                        case hyb_38 => refine Or.inl ⟨by rfl, ?_⟩; intro w hSw; obtain ⟨hh1, hh2, hh3, hh4⟩ := hSw; go_simp <;> with_reducible rfl
                        simp only [List.getElem_toArray, List.getElem_cons_succ, List.getElem_cons_zero, Act.put, List.setIfInBounds_toArray, List.set_cons_zero, List.set_cons_succ]
                        refine wpAnyH_done (by kernel_rfl) ?_ _
                        go_wp2
                        go_roundw
                        case rel => exact ⟨p + 1, by go_num, by omega, HBm1.out⟩
                        case measure => simp [intOf]; omega
                    · obtain rfl : p = xs.length + 64 := by omega
                      have HB5 : Hid _ := hb5
                      clear hltp hp hb5
                      go_wp2
                      go_roundw
                      case rel => exact ⟨q + 1, by go_num, by omega, HB5.out⟩
                      case measure => simp [intOf]; omega
                · obtain rfl : q = ls.length := by omega
                  go_wp2
                  go_ret
                  refine ⟨rfl, ?_⟩
                  exact (HC3.out.trans (HG3.out.chg.mono (fun k hk h => h.elim id (fun h => absurd hk (by omega))))).trans (Chg.of_below hb4 _)
end Go.Proofs.YtblhenblibdjoabDoor
