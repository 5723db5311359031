/-
  PlaceOwn: the walk.
-/
import Derived.Test.YtblhenblibdjoabDoorOwnPack
import Derived.Test.YtblhenblibdjoabDoorKnown
namespace Go.Proofs.YtblhenblibdjoabDoor
open Go.RowKit
set_option linter.unusedVariables false

set_option maxHeartbeats 3200000 in
set_option maxRecDepth 100000 in
theorem given_nil {w : World} {hb c : Nat} {a : Option Addr} (h : w.cell? ⟨hb, 0, none⟩ = some (.slice a 0 c)) :
    Calls Tryd.prog 24 #[.pointer (some ⟨hb, 0, none⟩)] w fun e w' => e = .returned (.bool true) ∧ w' = w := by
  go_enter Tryd.func24, Tryd.ntmps24
  go_wp2
  refine wp_loop_rounds 1 ?_
  rw [rounds_succ]
  go_wp2
  refine wp_loop_rounds 1 ?_
  rw [rounds_succ]
  go_wp2
  refine wp_loop_rounds 1 ?_
  rw [rounds_succ]
  go_wp2
  refine wp_loop_rounds 1 ?_
  rw [rounds_succ]
  go_wp2
  go_ret
  exact ⟨rfl, rfl⟩

theorem given_any {w : World} {B hb : Nat} {lv wv : Value} {ls ws : List Rw} (H : HeldAt w B hb lv wv ls ws) (hB : B ≤ w.heap.size) (hws : ws.map Prod.snd = ls.map Prod.snd) (hnd : (blks ls).Nodup) (hn : ls.length ≤ 1000) (hlen : ∀ r ∈ ls, r.2.length ≤ 100) :
    Calls Tryd.prog 24 #[.pointer (some ⟨hb, 0, none⟩)] w fun e w' => e = .returned (.bool true) ∧ Chg w w' (fun k => k ∈ blks ls) := by
  have hwl : ws.length = ls.length := by have := congrArg List.length hws; simpa using this
  have H2 := H
  rcases H.lo.2 with ⟨h1, h2⟩ | ⟨gl, cl, cur, h1, r1⟩
  · have hc := two_cell0 H.blk
    rw [h1] at hc
    refine (given_nil hc).mono ?_
    rintro e w' ⟨rfl, rfl⟩
    exact ⟨rfl, Chg.refl _ _⟩
  · rcases H.wo.2 with ⟨h3, h4⟩ | ⟨gw, cw, cur', h3, r2⟩
    · have hc := two_cell0 H.blk
      have h0 : ls.length = 0 := by omega
      rw [h1, h0] at hc
      refine (given_nil hc).mono ?_
      rintro e w' ⟨rfl, rfl⟩
      exact ⟨rfl, Chg.refl _ _⟩
    · rw [hwl] at h3
      rw [h1, h3] at H2
      exact given_some H2 hB hws hnd hn hlen

theorem cell_two_new (w : World) (x y : Value) (t : TypeId) : ∀ (j : Nat) (u : Value), [x, y][j]? = some u → (w.alloc (.cells #[x, y] t)).cell? ((⟨w.heap.size, 0, none⟩ : Addr).add j) = some u := by
  intro j u h
  rcases j with _ | _ | j
  · simp at h; subst h; simp [Addr.add]
  · simp at h; subst h; simp [Addr.add]
  · simp at h

set_option maxHeartbeats 16000000 in
set_option maxRecDepth 100000 in
theorem own_walk (a : Option Addr) (c : Nat) (xs : List ByteArray) (w : World) (hl : Lst w a xs) (hm : xs.length ≤ 9223372036854775807) (hg : Ground w) :
    Calls Tryd.prog 7 #[.slice a xs.length c] w fun e w' => e = .returned (.bool true) ∧ Below w.heap.size w w' := by
  have HL : Hid (Lst w a xs) := hl
  have HG : Hid (Ground w) := hg
  obtain ⟨i9, hi9, hy0, hy1, hy2⟩ := info_parts Tryd.info9
  clear hl hg
  go_enter Tryd.func7, Tryd.ntmps7
  go_wp2
  go_loopw [5] (fun r wr => ∃ n : Nat, r = .int .i64 n ∧ n ≤ 2 ∧ Hid (OwnI w wr (60 * n))) (fun r _ => 2 - (intOf r).toNat)
  case atStart => exact ⟨0, rfl, by omega, OwnI.start w⟩
  case round =>
    obtain ⟨n, rfl, hn, HI⟩ := hrel
    by_cases hn2 : n < 2
    · have hn2' : (n : Int) < 2 := by omega
      have hn2d : decide ((n : Int) < 2) = true := by simpa using hn2'
      go_wp2
      go_loopw [6] (fun i wr => ∃ p : Nat, i = .int .i64 p ∧ p ≤ xs.length ∧ p ≤ 60 ∧ Hid (OwnI w wr (60 * n + p))) (fun i _ => 60 - (intOf i).toNat)
      case atStart => exact ⟨0, rfl, by omega, by omega, HI.out⟩
      case round =>
        obtain ⟨p, rfl, hp, hp6, HI⟩ := hrel
        by_cases hlt : p < xs.length ∧ p < 60
        · obtain ⟨hlt1, hlt2⟩ := hlt
          obtain ⟨lv, wv, ls, ws, lv2, wv2, ls2, ws2, H0, hl1, hl2⟩ := HI.out
          have HH : Hid _ := H0
          obtain ⟨s, hs⟩ : ∃ s, xs[p]? = some s := ⟨xs[p], List.getElem?_eq_getElem hlt1⟩
          obtain ⟨b, o, ha, hbl, hst⟩ : ∃ b o, a = some ⟨b, o, none⟩ ∧ b < w.heap.size ∧ Strs w b o xs := by
            rcases HL.out with h | h
            · subst h; simp at hlt1
            · exact h
          subst ha
          have hcw : w.cell? ⟨b, o + p, none⟩ = some (.string s) := hst p s hs
          have hc0 : wr.cell? ⟨b, o + p, none⟩ = some (.string s) := by rw [H0.bel.cell (p := ⟨b, o + p, none⟩) hbl]; exact hcw
          have HCW : Hid _ := hcw
          have hszw : w.heap.size ≤ wr.heap.size := H0.bel.size
          have HGR : Hid (Ground wr) := HG.out.below H0.bel
          obtain ⟨code, ys, hp0⟩ : ∃ code ys, parse s = (code, ys) := ⟨_, _, rfl⟩
          have hyl : ys.length ≤ 6 := (parse_len hp0).1
          have HP : Hid _ := hp0
          have hlt1' : (p : Int) < (xs.length : Int) := by omega
          have hlt2' : (p : Int) < 60 := by omega
          have HL1 : Hid (ls.length ≤ 2 * (60 * n + p) ∧ ls2.length ≤ 60 * n + p) := ⟨hl1, hl2⟩
          clear hs hst hcw hp0 H0 hl1 hl2
          go_wp2_with fail
          refine (parse_row s HP.out wr HGR.out).mono ?_
          rintro e w1 ⟨a1, c1, rfl, hr1, hn1, hk1, hb1⟩
          have hc1 : w1.cell? ⟨b, o + p, none⟩ = some (.string s) := by rw [hb1.cell (p := ⟨b, o + p, none⟩) (by simp; omega)]; exact hc0
          have hz1 := hb1.size
          have HR1 : Hid (Rok w1 wr.heap.size (.slice a1 ys.length c1, ys)) := hr1
          have HN1 : Hid _ := hn1
          have HB1 : Hid _ := hb1
          have HH1 : Hid _ := HH.out.below hb1
          clear hr1 hn1 hk1 hb1 hc0
          go_wp2_with fail
          refine (parse_row s HP.out w1 (HGR.out.below HB1.out)).mono ?_
          rintro e w2 ⟨a2, c2, rfl, hr2, hn2, hk2, hb2⟩
          have hc2 : w2.cell? ⟨b, o + p, none⟩ = some (.string s) := by rw [hb2.cell (p := ⟨b, o + p, none⟩) (by simp; omega)]; exact hc1
          have hz2 := hb2.size
          have HR2 : Hid (Rok w2 w1.heap.size (.slice a2 ys.length c2, ys)) := hr2
          have HN2 : Hid _ := hn2
          have HB2 : Hid _ := hb2
          have HR12 : Hid (Rok w2 wr.heap.size (.slice a1 ys.length c1, ys)) := rok_below HR1.out hb2 (Nat.le_refl _)
          have HH2 : Hid _ := HH1.out.below hb2
          clear hr2 hn2 hk2 hb2 hc1
          go_wp2_with (first | (go_at_call 11; go_in) | (go_at_call 20; refine (texts_same a1 a2 c1 c2 ys w2 (rok_lst HR12.out) (rok_lst HR2.out) (by omega)).mono ?_; rintro e w3 ⟨rfl, m3, rfl⟩) | fail)
          have HB3 : Hid (Below w2.heap.size w2 (w2.drewN m3)) := drewN_below w2 m3
          have HH3 : Hid _ := HH2.out.below HB3.out
          have HRl : Hid (Rok (w2.drewN m3) w.heap.size (.slice a1 ys.length c1, ys)) := rok_below HR12.out HB3.out hszw
          have HRm : Hid (Rok (w2.drewN m3) w.heap.size (.slice a2 ys.length c2, ys)) := rok_below HR2.out HB3.out (by omega)
          have HF1 : Hid (∀ k, (Value.slice a1 ys.length c1).ownBlock = some k → wr.heap.size ≤ k ∧ k < w1.heap.size) := fun k hk => HR1.out.lt k hk
          have HF2 : Hid (∀ k, (Value.slice a2 ys.length c2).ownBlock = some k → w1.heap.size ≤ k) := fun k hk => (HR2.out.lt k hk).1
          have HLT : Hid _ := HH.out.all_lt
          clear hc2
          refine (add1_any HH3.out (by have := HL1.out; omega) _ ys HRl.out (by omega) HN1.out (fun k hk => ⟨fun h => by have := HF1.out k hk; have := HLT.out.1 k h; omega, fun h => by have := HF1.out k hk; have := HLT.out.2.2 k h; omega⟩)).mono ?_
          rintro e w4 ⟨rfl, lv4, wv4, cc4, hh4, hk4, hz4⟩
          have HH4 : Hid _ := hh4
          have HRm4 : Hid (Rok w4 w.heap.size (.slice a2 ys.length c2, ys)) := hk4 HRm.out
          clear hh4 hk4
          go_wp2_with fail
          refine (add1_any HH4.out (by have := HL1.out; simp; omega) _ ys HRm4.out (by omega) HN2.out (fun k hk => ⟨fun h => ?_, fun h => by have := HF2.out k hk; have := HLT.out.2.2 k h; omega⟩)).mono ?_
          · rcases mem_snoc h with h | h
            · have := HF2.out k hk; have := HLT.out.1 k h; omega
            · have := HF2.out k hk; have := (HF1.out k h).2; omega
          rintro e w5 ⟨rfl, lv5, wv5, cc5, hh5, hk5, hz5⟩
          have HH5 : Hid _ := hh5
          have hc5 : w5.cell? ⟨b, o + p, none⟩ = some (.string s) := by rw [hh5.bel.cell (p := ⟨b, o + p, none⟩) hbl]; exact HCW.out
          have hsz5 : w.heap.size ≤ w5.heap.size := hh5.bel.size
          have HLT5 : Hid _ := hh5.all_lt
          have HG5 : Hid (Ground w5) := HG.out.below hh5.bel
          clear hh5 hk5
          go_wp2_with fail
          refine (parse_row s HP.out w5 HG5.out).mono ?_
          rintro e w6 ⟨a3, c3, rfl, hr6, hn6, hk6, hb6⟩
          have hz6 := hb6.size
          have HR6 : Hid (Rok w6 w5.heap.size (.slice a3 ys.length c3, ys)) := hr6
          have HN6 : Hid _ := hn6
          have HB6 : Hid _ := hb6
          have HRl6 : Hid (Rok w6 w.heap.size (.slice a1 ys.length c1, ys)) := (HH5.out.below hb6).one.lrows _ (by simp)
          clear hr6 hn6 hk6 hb6 hc5
          go_wp2_with (first | (go_at_call 20; refine (texts_same a3 a1 c3 c1 ys w6 (rok_lst HR6.out) (rok_lst HRl6.out) (by omega)).mono ?_; rintro e w7 ⟨rfl, m6, rfl⟩) | fail)
          have HB7 : Hid (Below w5.heap.size w5 (w6.drewN m6)) := trans2 HB6.out (drewN_below w6 m6)
          have HR7 : Hid (Rok (w6.drewN m6) w5.heap.size (.slice a3 ys.length c3, ys)) := rok_below HR6.out (drewN_below w6 m6) (Nat.le_refl _)
          go_loopw [13] (fun k wk => ∃ (q : Nat) (zs : List ByteArray), k = .int .i64 q ∧ q ≤ ys.length ∧ Hid (zs.length = ys.length) ∧ Hid (Below w5.heap.size w5 wk) ∧ Hid (Rok wk w5.heap.size (.slice a3 ys.length c3, zs))) (fun k _ => ys.length - (intOf k).toNat)
          case atStart => exact ⟨0, ys, rfl, Nat.zero_le _, rfl, HB7.out, HR7.out⟩
          case round =>
            obtain ⟨q, zs, rfl, hq, HZ, HBk, HRk⟩ := hrel
            by_cases hltq : q < ys.length
            · obtain ⟨g, hg, hgl⟩ := rok_some HRk.out (by have := HZ.out; omega)
              subst hg
              obtain ⟨y, hy⟩ : ∃ y, zs[q]? = some y := ⟨zs[q]'(by have := HZ.out; omega), List.getElem?_eq_getElem _⟩
              have hrow : wr.ownsRow w5.heap.size 9 1 (.slice (some ⟨g, 0, none⟩) ys.length c3) ys.length (zs.map Value.string) := Rok.row HRk.out HZ.out
              have hcg : wr.cell? ⟨g, q, none⟩ = some (.string y) := rok_cell HRk.out hy
              have hfg := hrow.frozenAt q
              have HROW : Hid _ := hrow
              have hge := (hrow.lt g rfl).1
              have HM : Hid (∀ W, Calls Tryd.prog 22 #[.int .i64 (p : Int), .int .i64 (100 + (q : Int))] W fun e w' => e = .returned (.string (markB p (100 + q))) ∧ Below W.heap.size W w') := fun W => by
                have h := mark_any p (100 + q) (by omega) (by omega) W
                rw [show ((100 + q : Nat) : Int) = 100 + (q : Int) by omega] at h
                exact h
              have hltq' : (q : Int) < (ys.length : Int) := by omega
              clear hrow hy
              go_wp2_with (first | (go_at_call 22; refine (HM.out _).mono ?_; rintro e w8 ⟨rfl, hb8⟩; have e3 := hb8.cell (p := ⟨g, q, none⟩) hgl; have e4 := hb8.frozen (p := ⟨g, q, none⟩) hgl; have HB8 : Hid _ := hb8; clear hb8) | fail)
              have HA1 : Hid (Rok w8 w5.heap.size (.slice (some ⟨g, 0, none⟩) ys.length c3, zs)) := rok_below HRk.out HB8.out (Nat.le_refl _)
              have HA2 : Hid (Below w5.heap.size w5 (w8.setCell ⟨g, q, none⟩ (.string (markB p (100 + q))))) := (trans2 HBk.out HB8.out).setCell (by simp; omega) _
              have HA3 : Hid (Rok (w8.setCell ⟨g, q, none⟩ (.string (markB p (100 + q)))) w5.heap.size (.slice (some ⟨g, 0, none⟩) ys.length c3, zs.set q (markB p (100 + q)))) := Rok.of (row_put _ (Rok.row HA1.out HZ.out)) (by rw [List.length_set]; exact HZ.out)
              have HZ2 : Hid ((zs.set q (markB p (100 + q))).length = ys.length) := by
                show _ = _
                rw [List.length_set]; exact HZ.out
              go_roundw
              case rel => exact ⟨q + 1, _, by go_num, by omega, HZ2.out, HA2.out, HA3.out⟩
              case measure => simp [intOf]; omega
            · obtain rfl : q = ys.length := by omega
              have hnlt : ¬ ((ys.length : Int) < (ys.length : Int)) := by omega
              go_wp2_with (first
                | (at_builtin; refine wpList_append_rows _ rfl _ _ 37 rfl w5.heap.size 9 i9 (.string ByteArray.empty) 16 Tryd.underlying37 hi9 hy0 hy1 hy2 rfl (.slice a3 ys.length c3) ys.length (zs.map Value.string) rfl (World.ownsRow.alloc (Rok.row HRk.out HZ.out) _) ⟨_, 0, none⟩ 2 2 [.string ⟨#[120]⟩, .string ⟨#[121]⟩] rfl rfl (cell_two_new _ _ _ _) (fun x hx => by simp at hx; rcases hx with rfl | rfl <;> rfl) (by decide) (by unfold maxLen; omega) (by omega) (by have := HBk.out.size; simp; omega) ?_; intro g cap w8 hown8 halt8
                   have HO8 : Hid (w8.ownsRow w5.heap.size 9 1 (.slice (some ⟨g, 0, none⟩) (ys.length + 2) cap) (ys.length + 2) (zs.map Value.string ++ [.string ⟨#[120]⟩, .string ⟨#[121]⟩])) := hown8
                   have HA8 : Hid _ := halt8
                   clear hown8 halt8)
                | fail)
              have hge := (HO8.out.lt g rfl).1
              have HRy : Hid (Rok w8 w.heap.size (.slice (some ⟨g, 0, none⟩) (ys.length + 2) cap, zs ++ [⟨#[120]⟩, ⟨#[121]⟩])) := by
                refine Rok.of (n := ys.length + 2) ?_ (by have := HZ.out; simp; omega)
                rw [List.map_append]
                exact owns_mono HO8.out hsz5
              have HRx : Hid (Rok w8 w5.heap.size (.slice a3 ys.length c3, zs)) := prefix_kept (news := [⟨#[120]⟩, ⟨#[121]⟩]) (m := 2) HZ.out (rok_below HRk.out ((Below.refl _ _).alloc (Nat.le_refl _) _) (Nat.le_refl _)) HO8.out HA8.out
              have HB8 : Hid (Below w5.heap.size w5 w8) := by
                refine HBk.out.trans ?_
                have h1 := HBk.out.size
                rcases HA8.out with ⟨_, h⟩ | ⟨_, h⟩
                · exact ((Below.refl _ _).alloc h1 _).grown h (by simp; omega) (fun k hk => by cases hk; exact hge)
                · exact ((Below.refl _ _).alloc h1 _).grown h (by simp; omega) (fun k hk => by cases hk)
              have HH8 : Hid _ := HH5.out.below HB8.out
              refine (add2_any HH8.out (by have := HL1.out; omega) _ (zs ++ [⟨#[120]⟩, ⟨#[121]⟩]) HRy.out (by have := HZ.out; simp; omega) (.inr (by simp)) (fun k hk => ?_)).mono ?_
              · obtain rfl : g = k := Option.some.inj hk
                exact ⟨fun h => by have := HLT5.out.1 g h; omega, fun h => by have := HLT5.out.2.1 g h; omega, fun h => by have := HLT5.out.2.2 g h; omega⟩
              rintro e w9 ⟨rfl, lv9, wv9, cc9, hh9, hk9, hz9⟩
              have HH9 : Hid _ := hh9
              have HRx9 : Hid (Rok w9 w5.heap.size (.slice a3 ys.length c3, zs)) := hk9 HRx.out
              have HJ : Hid (Calls Tryd.prog 23 #[.string ⟨#[47, 97]⟩, .slice a3 ys.length c3] w9 fun e w' => e = .returned (.tuple #[.string (join ⟨#[47, 97]⟩ zs).2, .int .i64 (join ⟨#[47, 97]⟩ zs).1]) ∧ Below w9.heap.size w9 w') := by
                have hr := HRx9.out
                have hz := HZ.out
                have h := join_any ⟨#[47, 97]⟩ a3 c3 zs w9 (HG.out.below hh9.bel) (rok_lst (B := w5.heap.size) (c := c3) (by rw [hz]; exact hr)) (fun ha => by
                  subst ha
                  rcases HN6.out with e | e
                  · simp only [Value.slice.injEq] at e
                    exact e.2.2
                  · exfalso
                    obtain ⟨g', e', _⟩ := rok_some HR6.out (by cases ys with
                      | nil => exact absurd rfl e
                      | cons _ _ => simp)
                    cases e') (by omega)
                rw [hz] at h
                exact h
              clear hh9 hk9
              go_wp2_with (first | (go_at_call 23; refine HJ.out.mono ?_; rintro e w10 ⟨rfl, hb10⟩; have HB10 : Hid _ := hb10; clear hb10) | fail)
              go_roundw
              case rel =>
                have hI : OwnI w w10 (60 * n + (p + 1)) := ⟨_, _, _, _, _, _, _, _, HH9.out.below HB10.out, by have := HL1.out; simp; omega, by have := HL1.out; simp; omega⟩
                exact ⟨p + 1, by go_num, by omega, by omega, hI⟩
              case measure => simp [intOf]; omega
        · have hnlt : ¬ ((p : Int) < (xs.length : Int)) ∨ ¬ ((p : Int) < 60) := by omega
          have HI2 : Hid (OwnI w wr (60 * (n + 1))) := by
            obtain ⟨lv, wv, ls, ws, lv2, wv2, ls2, ws2, H0, hl1, hl2⟩ := HI.out
            exact ⟨lv, wv, ls, ws, lv2, wv2, ls2, ws2, H0, by omega, by omega⟩
          by_cases hx1 : (p : Int) < (xs.length : Int)
          · have hx2 : ¬ ((p : Int) < 60) := by omega
            go_wp2
            go_roundw
            case rel => exact ⟨n + 1, by go_num, by omega, HI2.out⟩
            case measure => simp [intOf]; omega
          · go_wp2
            go_roundw
            case rel => exact ⟨n + 1, by go_num, by omega, HI2.out⟩
            case measure => simp [intOf]; omega
    · obtain rfl : n = 2 := by omega
      obtain ⟨lv, wv, ls, ws, lv2, wv2, ls2, ws2, H0, hl1, hl2⟩ := HI.out
      have HH : Hid _ := H0
      have HL1 : Hid (ls.length ≤ 240 ∧ ls2.length ≤ 120) := ⟨by omega, by omega⟩
      have HC1 : Hid _ := given_any HH.out.two HH.out.bel.size HH.out.e2 HH.out.nd2 (by have := HL1.out; omega) HH.out.len2
      clear H0 hl1 hl2
      go_wp2_with fail
      refine Calls.mono HC1.out ?_
      rintro e w1 ⟨rfl, hc1⟩
      have hg1 := HH.out.gave2 hc1
      have HG1 : Hid _ := hg1.1
      have HG2 : Hid _ := hg1.2
      have HC2 : Hid _ := given_any hg1.1 hg1.2.size HH.out.e1 HH.out.nd1 (by have := HL1.out; omega) HH.out.len1
      clear hc1 hg1
      go_wp2_with fail
      refine Calls.mono HC2.out ?_
      rintro e w2 ⟨rfl, hc2⟩
      have HG3 : Hid (Below w.heap.size w w2) := HG2.out.trans (HG1.out.gave HG2.out.size hc2)
      clear hc2
      go_wp2_with fail
      refine (known_any w2 (HG.out.below HG3.out)).mono ?_
      rintro e w3 ⟨rfl, hb3⟩
      have HB3 : Hid _ := hb3
      clear hb3
      go_wp2_with fail
      go_ret
      exact ⟨rfl, trans2 HG3.out HB3.out⟩
end Go.Proofs.YtblhenblibdjoabDoor
