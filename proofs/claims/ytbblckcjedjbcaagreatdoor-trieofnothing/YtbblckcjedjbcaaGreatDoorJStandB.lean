/-
  own.go: stands: reading alone.
-/
import Derived.Test.YtbblckcjedjbcaaGreatDoorJGrow2
namespace Go.Proofs.YtbblckcjedjbcaaGreatDoor.J
open Go.RowKit
set_option linter.unusedVariables false
set_option linter.unusedSimpArgs false

theorem row_el {w : World} {T sz g c n p : Nat} {l : List (El sz)} {e : El sz} (hr : w.ownsRow 0 T sz (.slice (some ⟨g, 0, none⟩) n c) n (fl l)) (hp : l[p]? = some e) (j : Nat) (u : Value) (hj : e.1[j]? = some u) : w.cell? ⟨g, p * sz + j, none⟩ = some u :=
  cell_n hr (flat_at (cells := fun e : El sz => e.1) (fun e => e.2.1) hp hj)
theorem cell_past {w w' : World} {a : Addr} {v : Value} (hb : Below w.heap.size w w') (h : w.cell? a = some v) : w'.cell? a = some v := by
  rw [hb.cell (p := a) ?_]
  · exact h
  · apply Decidable.byContradiction
    intro hn
    have : w.heap[a.block]? = none := Array.getElem?_eq_none (by omega)
    simp [World.cell?, this] at h
theorem below_more {w wr w2 : World} (h : Below w.heap.size w wr) (k : Below wr.heap.size wr w2) : Below w.heap.size w w2 :=
  ⟨k.os.trans h.os, k.tape.trans h.tape, k.output.trans h.output, Nat.le_trans h.size k.size, fun j hj => by rw [k.block j (Nat.lt_of_lt_of_le hj h.size)]; exact h.block j hj⟩
theorem Rs.on {w w' : World} {tH T sz : Nat} {mk : Int → El sz} {gv : Value} {gs : List Value} {ls : List (List (El sz))} (h : Rs w tH T sz mk gv gs ls) (hb : Below w.heap.size w w') : Rs w' tH T sz mk gv gs ls :=
  ⟨owns_below h.gr hb, fun j g l hg hl => owns_below (h.rd j g l hg hl) hb⟩
theorem bhd_len {sz : Nat} (mk : Int → El sz) (q : Nat) : (bhd mk q).length = grB q := by unfold bhd; rw [List.length_replicate]
/-- What lies in the grown list of the number q. -/
theorem Rs.el {w : World} {tH T sz : Nat} {mk : Int → El sz} {gv : Value} {gs : List Value} {ls : List (List (El sz))} {L : List Nat} {N q : Nat} {l : List (El sz)} (h : Rs w tH T sz mk gv gs ls) (hK : Mk mk L ls N) (hq : q < N) (hgq : q < gs.length) (hl : ls[q]? = some l) :
    ∃ gg gc gb bc, gv = .slice (some ⟨gg, 0, none⟩) gs.length gc ∧ w.cell? ⟨gg, q, none⟩ = some (.slice (some ⟨gb, 0, none⟩) (l.length + grB q) bc) ∧ ∀ p, p < l.length + grB q → ∀ j u, (mk (if p < l.length then (q : Int) + 1 else -(q : Int) - 1)).1[j]? = some u → w.cell? ⟨gb, p * sz + j, none⟩ = some u := by
  obtain ⟨g, hg⟩ : ∃ g, gs[q]? = some g := ⟨_, List.getElem?_eq_getElem hgq⟩
  have hr := h.rd q g l hg hl
  rw [bhd_len] at hr
  have hG : 0 < grB q := by unfold grB; split <;> omega
  obtain ⟨gb, bc, rfl, _⟩ := hr.form (by omega)
  obtain ⟨gg, gc, rfl, _⟩ := h.gr.form (by omega)
  refine ⟨gg, gc, gb, bc, rfl, cell_n h.gr hg, fun p hp j u hj => ?_⟩
  have hfl : fl l ++ fl (bhd mk q) = fl (l ++ bhd mk q) := by simp [fl]
  rw [hfl] at hr
  refine row_el hr ?_ j u hj
  by_cases hpl : p < l.length
  · rw [if_pos hpl, List.getElem?_append_left hpl, List.getElem?_eq_getElem hpl]
    rw [hK.old q l hl hq p _ (List.getElem?_eq_getElem hpl)]
  · rw [if_neg hpl, List.getElem?_append_right (by omega)]
    unfold bhd
    rw [List.getElem?_replicate, if_pos (by omega)]
set_option maxHeartbeats 25600000 in
set_option maxRecDepth 100000 in
theorem bstands_any (B : Nat) (hv hn gv gn : Value) (us ms gs gm : List Value) (ls : List (List (El 2))) (ns : List (List (El 4))) (L1 L2 : List Nat) (w : World) (h : Bo w B hv hn gv gn us ms ls ns) (hR : Rs w 37 34 2 mkV gv gs ls) (hgl : gs.length = us.length) (hN : Rs w 43 40 4 mkN gn gm ns) (hml : gm.length = ms.length) (hK1 : Mk mkV L1 ls us.length) (hK2 : Mk mkN L2 ns ms.length) (hu : us.length ≤ 1000) (hm : ms.length ≤ 1000) (hul : ∀ l ∈ ls, l.length ≤ 1000) (hnl : ∀ l ∈ ns, l.length ≤ 1000) :
    Calls Tryz.prog 24 #[.pointer (some ⟨B, 0, none⟩)] w fun e w' => e = .returned (.bool true) ∧ Below w.heap.size w w' := by
  obtain ⟨n, hnn⟩ : ∃ n, us.length = n := ⟨_, rfl⟩
  obtain ⟨m, hmm⟩ : ∃ m, ms.length = m := ⟨_, rfl⟩
  obtain ⟨va, vc, rfl⟩ : ∃ va vc, hv = .slice va n vc := by
    rcases h.hr.2 with ⟨rfl, h0⟩ | ⟨g, cap, cur, rfl, _⟩
    · exact ⟨none, 0, by rw [← hnn, h0]⟩
    · exact ⟨_, _, by rw [hnn]⟩
  obtain ⟨na, nc, rfl⟩ : ∃ na nc, hn = .slice na m nc := by
    rcases h.nr.2 with ⟨rfl, h0⟩ | ⟨g, cap, cur, rfl, _⟩
    · exact ⟨none, 0, by rw [← hmm, h0]⟩
    · exact ⟨_, _, by rw [hmm]⟩
  rw [hnn] at hu hgl hK1
  rw [hmm] at hm hml hK2
  have HU : Hid (us.length = n) := hnn
  have HM : Hid (ms.length = m) := hmm
  have HUL : Hid (∀ l ∈ ls, l.length ≤ 1000) := hul
  have HML : Hid (∀ l ∈ ns, l.length ≤ 1000) := hnl
  have H0 : Hid (Bo w B (.slice va n vc) (.slice na m nc) gv gn us ms ls ns) := h
  have HR : Hid (Rs w 37 34 2 mkV gv gs ls) := hR
  have HN : Hid (Rs w 43 40 4 mkN gn gm ns) := hN
  have HGL : Hid (gs.length = n) := hgl
  have HNL : Hid (gm.length = m) := hml
  have HK1 : Hid (Mk mkV L1 ls n) := hK1
  have HK2 : Hid (Mk mkN L2 ns m) := hK2
  clear h hnn hmm hul hnl hR hN hgl hml hK1 hK2
  go_enter Tryz.func24, Tryz.ntmps24
  go_wp2_with fail
  go_loopw [3, 4] (fun ok k wr => ∃ (q : Nat), ok = .bool true ∧ k = .int .i64 q ∧ q ≤ n ∧ Hid (Below w.heap.size w wr)) (fun _ k _ => n - (intOf k).toNat)
  case atStart => exact ⟨0, rfl, rfl, Nat.zero_le _, Below.refl _ _⟩
  case round =>
    obtain ⟨q, rfl, rfl, hq, HB⟩ := hrel
    have HO : Hid (Bo wr B (.slice va n vc) (.slice na m nc) gv gn us ms ls ns) := H0.out.on HB.out
    obtain ⟨b0, b1, b2, b3⟩ := cells_4 HO.out.box
    by_cases hlt : q < n
    · have hqi : (q : Int) < (n : Int) := by omega
      obtain ⟨u, hu⟩ : ∃ u, us[q]? = some u := ⟨us[q]'(by rw [HU.out]; exact hlt), List.getElem?_eq_getElem _⟩
      obtain ⟨l, hl, hr⟩ := HO.out.fu.get hu
      obtain ⟨hg, hcc, hhv, hcell⟩ := HO.out.cellV hu
      rw [HU.out] at hhv
      simp only [Value.slice.injEq, true_and] at hhv
      obtain ⟨hva, -⟩ := hhv
      have HVA : Hid (va = some ⟨hg, 0, none⟩) := hva
      rw [hva] at b0
      clear hva
      obtain ⟨z, hz⟩ : ∃ z, l.length = z := ⟨_, rfl⟩
      obtain ⟨G, hGG⟩ : ∃ G, grB q = G := ⟨_, rfl⟩
      have hG96 : G ≤ 96 := by rw [← hGG]; exact grB_le q
      obtain ⟨ua, uc, rfl⟩ : ∃ ua uc, u = .slice ua z uc := by
        rcases hr.2 with ⟨rfl, h0⟩ | ⟨g, cap, cur, rfl, _⟩
        · exact ⟨none, 0, by rw [← hz, h0]⟩
        · exact ⟨_, _, by rw [hz]⟩
      have hz1000 : z ≤ 1000 := by rw [← hz]; exact HUL.out l (List.mem_of_getElem? hl)
      have HUQ : Hid (us[q]? = some (.slice ua z uc)) := hu
      have HLQ : Hid (ls[q]? = some l) := hl
      have HLZ : Hid (l.length = z) := hz
      have hqw : IntKind.i64.wrap ((q : Int) + 1) = (q : Int) + 1 := by rw [IntKind.wrap_i64]; omega
      have hn1 : IntKind.i64.wrap (-(q : Int)) = -(q : Int) := by rw [IntKind.wrap_i64]; omega
      have hn2 : IntKind.i64.wrap (-(q : Int) - 1) = -(q : Int) - 1 := by rw [IntKind.wrap_i64]; omega
      obtain ⟨gg, gc, gb, bc, hgv, hgc, hx⟩ := HR.out.el HK1.out hlt (by rw [HGL.out]; exact hlt) hl
      rw [hz, hGG] at hgc hx
      rw [HGL.out] at hgv
      have HGV : Hid (gv = .slice (some ⟨gg, 0, none⟩) n gc) := hgv
      have HGC : Hid (w.cell? ⟨gg, q, none⟩ = some (.slice (some ⟨gb, 0, none⟩) (z + G) bc)) := hgc
      have HX : Hid (∀ p, p < z + G → ∀ j u, (mkV (if p < z then (q : Int) + 1 else -(q : Int) - 1)).1[j]? = some u → w.cell? ⟨gb, p * 2 + j, none⟩ = some u) := hx
      have hgq : wr.cell? ⟨gg, q, none⟩ = some (.slice (some ⟨gb, 0, none⟩) (z + G) bc) := cell_past HB.out hgc
      rw [hgv] at b1
      clear hu hl hr hz hGG hgv hx hgc
      go_wp2_with fail
      go_loopw [3, 5] (fun ok i wr => ∃ (p : Nat), ok = .bool true ∧ i = .int .i64 p ∧ p ≤ z + G ∧ Hid (Below w.heap.size w wr)) (fun _ i _ => z + G - (intOf i).toNat)
      case atStart => exact ⟨0, rfl, rfl, Nat.zero_le _, HB⟩
      case round =>
        clear b0 b1 b2 b3 hcell hgq HO HB
        obtain ⟨p, rfl, rfl, hp, HB⟩ := hrel
        have HO : Hid (Bo wr B (.slice va n vc) (.slice na m nc) gv gn us ms ls ns) := H0.out.on HB.out
        obtain ⟨b0, b1, b2, b3⟩ := cells_4 HO.out.box
        have hcell : wr.cell? ⟨hg, q, none⟩ = some (.slice ua z uc) := by
          obtain ⟨hg', hcc', hhv, hcell⟩ := HO.out.cellV HUQ.out
          rw [HU.out, HVA.out] at hhv
          simp only [Value.slice.injEq, true_and, Option.some.injEq, Addr.mk.injEq, and_true] at hhv
          rw [hhv.1]
          exact hcell
        have hgq : wr.cell? ⟨gg, q, none⟩ = some (.slice (some ⟨gb, 0, none⟩) (z + G) bc) := cell_past HB.out HGC.out
        rw [HVA.out] at b0
        rw [HGV.out] at b1
        have hfz : (⟨B, 0, none⟩ : Addr).block < w.heap.size := lt_of_blk H0.out.box
        by_cases hltp : p < z + G
        · have hpi : (p : Int) < (z : Int) + (G : Int) := by omega
          have hpi' : (p : Int) < ((z + G : Nat) : Int) := by omega
          by_cases hpz : p < z
          · have hpzi : (p : Int) < (z : Int) := by omega
            have hpzi' : ¬ (z : Int) ≤ (p : Int) := by omega
            have hx := HX.out p hltp
            rw [if_pos hpz] at hx
            have x0 : wr.cell? ⟨gb, p * 2, none⟩ = some (.int .i64 0) := cell_past HB.out (hx 0 _ rfl)
            have x1 : wr.cell? ⟨gb, p * 2 + 1, none⟩ = some (.int .i64 ((q : Int) + 1)) := cell_past HB.out (hx 1 _ rfl)
            have hrow := HO.out.fu.row q _ l HUQ.out HLQ.out
            rw [HLZ.out] at hrow
            obtain ⟨ub, rfl⟩ : ∃ ub, ua = some ⟨ub, 0, none⟩ := by
              rcases hrow.2 with ⟨h1, h0⟩ | ⟨g, cap, cur, h1, _⟩
              · omega
              · simp only [Value.slice.injEq] at h1; exact ⟨g, h1.1⟩
            have hle : p < l.length := by rw [HLZ.out]; exact hpz
            have hel : l[p]? = some (mkV ((q : Int) + 1)) := by rw [List.getElem?_eq_getElem hle, ← HK1.out.old q l HLQ.out hlt p _ (List.getElem?_eq_getElem hle)]
            have hy := row_el hrow hel
            have HW : Below wr.heap.size wr (wr.alloc (.cells #[.int .i64 0, .int .i64 ((q : Int) + 1)] 34)) := (Below.refl _ _).alloc (Nat.le_refl _) _
            have a0 := cell_past HW b0
            have a1 := cell_past HW hcell
            have y0 : (wr.alloc (.cells #[.int .i64 0, .int .i64 ((q : Int) + 1)] 34)).cell? ⟨ub, p * 2, none⟩ = some (.int .i64 0) := cell_past HW (hy 0 _ rfl)
            have y1 : (wr.alloc (.cells #[.int .i64 0, .int .i64 ((q : Int) + 1)] 34)).cell? ⟨ub, p * 2 + 1, none⟩ = some (.int .i64 ((q : Int) + 1)) := cell_past HW (hy 1 _ rfl)
            have HW2 : Hid (Below wr.heap.size wr (wr.alloc (.cells #[.int .i64 0, .int .i64 ((q : Int) + 1)] 34))) := HW
            clear hx hy hel hrow HW hle
            go_wp2_with fail
            exact ⟨⟨p + 1, rfl, by rw [show ((p + 1 : Nat) : Int) = (p : Int) + 1 by omega], by omega, HB.out.alloc HB.out.size _⟩, by simp [intOf]; omega⟩
          · have hpzi : ¬ (p : Int) < (z : Int) := by omega
            have hpzi' : (z : Int) ≤ (p : Int) := by omega
            have hx := HX.out p hltp
            rw [if_neg hpz] at hx
            have x0 : wr.cell? ⟨gb, p * 2, none⟩ = some (.int .i64 0) := cell_past HB.out (hx 0 _ rfl)
            have x1 : wr.cell? ⟨gb, p * 2 + 1, none⟩ = some (.int .i64 (-(q : Int) - 1)) := cell_past HB.out (hx 1 _ rfl)
            have HW : Below wr.heap.size wr (wr.alloc (.cells #[.int .i64 0, .int .i64 (-(q : Int) - 1)] 34)) := (Below.refl _ _).alloc (Nat.le_refl _) _
            have a0 := cell_past HW b0
            have a1 := cell_past HW hcell
            have HW2 : Hid (Below wr.heap.size wr (wr.alloc (.cells #[.int .i64 0, .int .i64 (-(q : Int) - 1)] 34))) := HW
            clear hx HW
            go_wp2_with fail
            exact ⟨⟨p + 1, rfl, by rw [show ((p + 1 : Nat) : Int) = (p : Int) + 1 by omega], by omega, HB.out.alloc HB.out.size _⟩, by simp [intOf]; omega⟩
        · obtain rfl : p = z + G := by omega
          have hpi' : ¬ ((z + G : Nat) : Int) < ((z + G : Nat) : Int) := by omega
          go_wp2_with fail
          exact ⟨⟨q + 1, rfl, by rw [show ((q + 1 : Nat) : Int) = (q : Int) + 1 by omega], by omega, HB⟩, by simp [intOf]; omega⟩
    · obtain rfl : n = q := by omega
      have hqi : ¬ (n : Int) < (n : Int) := by omega
      have HBV : Hid (Below w.heap.size w wr) := HB
      clear HO HB
      go_wp2_with fail
      go_loopw [3, 8] (fun ok k wr => ∃ (q : Nat), ok = .bool true ∧ k = .int .i64 q ∧ q ≤ m ∧ Hid (Below w.heap.size w wr)) (fun _ k _ => m - (intOf k).toNat)
      case atStart => exact ⟨0, rfl, rfl, Nat.zero_le _, HBV⟩
      case round =>
        obtain ⟨q, rfl, rfl, hq, HB⟩ := hrel
        have HO : Hid (Bo wr B (.slice va n vc) (.slice na m nc) gv gn us ms ls ns) := H0.out.on HB.out
        obtain ⟨b0, b1, b2, b3⟩ := cells_4 HO.out.box
        by_cases hlt : q < m
        · have hqi : (q : Int) < (m : Int) := by omega
          obtain ⟨u, hu⟩ : ∃ u, ms[q]? = some u := ⟨ms[q]'(by rw [HM.out]; exact hlt), List.getElem?_eq_getElem _⟩
          obtain ⟨l, hl, hr⟩ := HO.out.fm.get hu
          obtain ⟨hg, hcc, hhv, hcell⟩ := HO.out.cellN hu
          rw [HM.out] at hhv
          simp only [Value.slice.injEq, true_and] at hhv
          obtain ⟨hva, -⟩ := hhv
          have HVA : Hid (na = some ⟨hg, 0, none⟩) := hva
          rw [hva] at b2
          clear hva
          obtain ⟨z, hz⟩ : ∃ z, l.length = z := ⟨_, rfl⟩
          obtain ⟨G, hGG⟩ : ∃ G, grB q = G := ⟨_, rfl⟩
          have hG96 : G ≤ 96 := by rw [← hGG]; exact grB_le q
          obtain ⟨ua, uc, rfl⟩ : ∃ ua uc, u = .slice ua z uc := by
            rcases hr.2 with ⟨rfl, h0⟩ | ⟨g, cap, cur, rfl, _⟩
            · exact ⟨none, 0, by rw [← hz, h0]⟩
            · exact ⟨_, _, by rw [hz]⟩
          have hz1000 : z ≤ 1000 := by rw [← hz]; exact HML.out l (List.mem_of_getElem? hl)
          have HUQ : Hid (ms[q]? = some (.slice ua z uc)) := hu
          have HLQ : Hid (ns[q]? = some l) := hl
          have HLZ : Hid (l.length = z) := hz
          have hqw : IntKind.i64.wrap ((q : Int) + 1) = (q : Int) + 1 := by rw [IntKind.wrap_i64]; omega
          have hn1 : IntKind.i64.wrap (-(q : Int)) = -(q : Int) := by rw [IntKind.wrap_i64]; omega
          have hn2 : IntKind.i64.wrap (-(q : Int) - 1) = -(q : Int) - 1 := by rw [IntKind.wrap_i64]; omega
          obtain ⟨gg, gc, gb, bc, hgv, hgc, hx⟩ := HN.out.el HK2.out hlt (by rw [HNL.out]; exact hlt) hl
          rw [hz, hGG] at hgc hx
          rw [HNL.out] at hgv
          have HGV : Hid (gn = .slice (some ⟨gg, 0, none⟩) m gc) := hgv
          have HGC : Hid (w.cell? ⟨gg, q, none⟩ = some (.slice (some ⟨gb, 0, none⟩) (z + G) bc)) := hgc
          have HX : Hid (∀ p, p < z + G → ∀ j u, (mkN (if p < z then (q : Int) + 1 else -(q : Int) - 1)).1[j]? = some u → w.cell? ⟨gb, p * 4 + j, none⟩ = some u) := hx
          have hgq : wr.cell? ⟨gg, q, none⟩ = some (.slice (some ⟨gb, 0, none⟩) (z + G) bc) := cell_past HB.out hgc
          rw [hgv] at b3
          clear hu hl hr hz hGG hgv hx hgc
          go_wp2_with fail
          go_loopw [3, 9] (fun ok i wr => ∃ (p : Nat), ok = .bool true ∧ i = .int .i64 p ∧ p ≤ z + G ∧ Hid (Below w.heap.size w wr)) (fun _ i _ => z + G - (intOf i).toNat)
          case atStart => exact ⟨0, rfl, rfl, Nat.zero_le _, HB⟩
          case round =>
            clear b0 b1 b2 b3 hcell hgq HO HB
            obtain ⟨p, rfl, rfl, hp, HB⟩ := hrel
            have HO : Hid (Bo wr B (.slice va n vc) (.slice na m nc) gv gn us ms ls ns) := H0.out.on HB.out
            obtain ⟨b0, b1, b2, b3⟩ := cells_4 HO.out.box
            have hcell : wr.cell? ⟨hg, q, none⟩ = some (.slice ua z uc) := by
              obtain ⟨hg', hcc', hhv, hcell⟩ := HO.out.cellN HUQ.out
              rw [HM.out, HVA.out] at hhv
              simp only [Value.slice.injEq, true_and, Option.some.injEq, Addr.mk.injEq, and_true] at hhv
              rw [hhv.1]
              exact hcell
            have hgq : wr.cell? ⟨gg, q, none⟩ = some (.slice (some ⟨gb, 0, none⟩) (z + G) bc) := cell_past HB.out HGC.out
            rw [HVA.out] at b2
            rw [HGV.out] at b3
            have hfz : (⟨B, 0, none⟩ : Addr).block < w.heap.size := lt_of_blk H0.out.box
            by_cases hltp : p < z + G
            · have hpi : (p : Int) < (z : Int) + (G : Int) := by omega
              have hpi' : (p : Int) < ((z + G : Nat) : Int) := by omega
              by_cases hpz : p < z
              · have hpzi : (p : Int) < (z : Int) := by omega
                have hpzi' : ¬ (z : Int) ≤ (p : Int) := by omega
                obtain ⟨cs, hcs⟩ : ∃ cs, (mkN ((q : Int) + 1)).1 = cs := ⟨_, rfl⟩
                have HL : Hid (cs.length = 4) := by rw [← hcs]; exact (mkN _).2.1
                have HO1 : Hid (∀ v ∈ cs, v.oneCell' = true) := by rw [← hcs]; exact (mkN _).2.2
                have HC0 : Hid (cs[0]? = some (.int .i64 ((q : Int) + 1))) := by rw [← hcs]; rfl
                have HRA : Hid (wr.rangeAt gb (p * 4) cs) := fun j v hj => cell_past HB.out (HX.out p hltp j v (by rw [if_pos hpz, hcs]; exact hj))
                have hrow := HO.out.fm.row q _ l HUQ.out HLQ.out
                rw [HLZ.out] at hrow
                obtain ⟨ub, rfl⟩ : ∃ ub, ua = some ⟨ub, 0, none⟩ := by
                  rcases hrow.2 with ⟨h1, h0⟩ | ⟨g, cap, cur, h1, _⟩
                  · omega
                  · simp only [Value.slice.injEq] at h1; exact ⟨g, h1.1⟩
                have hle : p < l.length := by rw [HLZ.out]; exact hpz
                have hel : l[p]? = some (mkN ((q : Int) + 1)) := by rw [List.getElem?_eq_getElem hle, ← HK2.out.old q l HLQ.out hlt p _ (List.getElem?_eq_getElem hle)]
                have hy := row_el hrow hel
                have HTH : Hid ((wr.alloc (.cells #[.int .i64 0, .string ⟨#[]⟩, .int .i64 0, .int .i64 0] 40)).there wr.heap.size 0 cs.toArray.size) := by
                  rw [show cs.toArray.size = 4 by rw [List.size_toArray]; exact HL.out]
                  exact there_of (heap_alloc_new _ _) (by decide)
                obtain ⟨w9, hw9⟩ : ∃ w9, (wr.alloc (.cells #[.int .i64 0, .string ⟨#[]⟩, .int .i64 0, .int .i64 0] 40)).setCells wr.heap.size 0 cs = w9 := ⟨_, rfl⟩
                have HW9 : Hid ((wr.alloc (.cells #[.int .i64 0, .string ⟨#[]⟩, .int .i64 0, .int .i64 0] 40)).setCells wr.heap.size 0 cs = w9) := hw9
                have HB9 : Hid (Below wr.heap.size wr w9) := by rw [← hw9]; exact below_setCells ((Below.refl _ _).alloc (Nat.le_refl _) _) (Nat.le_refl _) (Nat.le_refl _) _ _
                have k0 : w9.cell? ⟨wr.heap.size, 0, none⟩ = some (.int .i64 ((q : Int) + 1)) := by
                  rw [← hw9]
                  exact World.rangeAt_setCells_same _ wr.heap.size 0 cs (by have := HTH.out; rw [show cs.toArray.size = cs.length by rw [List.size_toArray]] at this; exact this) 0 _ HC0.out
                have a0 := cell_past HB9.out b2
                have a1 := cell_past HB9.out hcell
                have HRB : Hid (w9.rangeAt ub (p * 4) cs) := fun j v hj => cell_past HB9.out (hy j v (by rw [hcs]; exact hj))
                have HT9 : Hid (w9.there wr.heap.size 0 cs.toArray.size) := by rw [← hw9]; exact World.there_setCells HTH.out _ _ _
                obtain ⟨w10, hw10⟩ : ∃ w10, w9.setCells wr.heap.size 0 cs = w10 := ⟨_, rfl⟩
                have HW10 : Hid (w9.setCells wr.heap.size 0 cs = w10) := hw10
                have HB10 : Hid (Below wr.heap.size wr w10) := by rw [← hw10]; exact below_setCells HB9.out (Nat.le_refl _) (Nat.le_refl _) _ _
                have k1 : w10.cell? ⟨wr.heap.size, 0, none⟩ = some (.int .i64 ((q : Int) + 1)) := by
                  rw [← hw10]
                  exact World.rangeAt_setCells_same _ wr.heap.size 0 cs (by have := HT9.out; rw [show cs.toArray.size = cs.length by rw [List.size_toArray]] at this; exact this) 0 _ HC0.out
                clear hy hel hrow hle hcs hw9 hw10
                go_wp2_with (first
                  | (refine wpList_load_mid rfl 40 _ rfl gb (p * 4) rfl cs _ HRA.out Tryz.underlying40 rfl (by rw [HL.out]; kernel_rfl) ?_)
                  | (refine wpList_store_mid rfl 40 _ _ rfl wr.heap.size 0 cs.toArray rfl rfl HTH.out (by rw [List.size_toArray, HL.out]; kernel_rfl) (all_oneCell_toArray HO1.out) ?_
                     rw [show cs.toArray.toList = cs from rfl, HW9.out])
                  | (refine wpList_load_mid rfl 40 _ rfl ub (p * 4) rfl cs _ HRB.out Tryz.underlying40 rfl (by rw [HL.out]; kernel_rfl) ?_)
                  | (refine wpList_store_mid rfl 40 _ _ rfl wr.heap.size 0 cs.toArray rfl rfl HT9.out (by rw [List.size_toArray, HL.out]; kernel_rfl) (all_oneCell_toArray HO1.out) ?_
                     rw [show cs.toArray.toList = cs from rfl, HW10.out])
                  | fail)
                exact ⟨⟨p + 1, rfl, by rw [show ((p + 1 : Nat) : Int) = (p : Int) + 1 by omega], by omega, below_more HB.out HB10.out⟩, by simp [intOf]; omega⟩
              · have hpzi : ¬ (p : Int) < (z : Int) := by omega
                have hpzi' : (z : Int) ≤ (p : Int) := by omega
                obtain ⟨cs, hcs⟩ : ∃ cs, (mkN (-(q : Int) - 1)).1 = cs := ⟨_, rfl⟩
                have HL : Hid (cs.length = 4) := by rw [← hcs]; exact (mkN _).2.1
                have HO1 : Hid (∀ v ∈ cs, v.oneCell' = true) := by rw [← hcs]; exact (mkN _).2.2
                have HC0 : Hid (cs[0]? = some (.int .i64 (-(q : Int) - 1))) := by rw [← hcs]; rfl
                have HRA : Hid (wr.rangeAt gb (p * 4) cs) := fun j v hj => cell_past HB.out (HX.out p hltp j v (by rw [if_neg hpz, hcs]; exact hj))
                have HTH : Hid ((wr.alloc (.cells #[.int .i64 0, .string ⟨#[]⟩, .int .i64 0, .int .i64 0] 40)).there wr.heap.size 0 cs.toArray.size) := by
                  rw [show cs.toArray.size = 4 by rw [List.size_toArray]; exact HL.out]
                  exact there_of (heap_alloc_new _ _) (by decide)
                obtain ⟨w9, hw9⟩ : ∃ w9, (wr.alloc (.cells #[.int .i64 0, .string ⟨#[]⟩, .int .i64 0, .int .i64 0] 40)).setCells wr.heap.size 0 cs = w9 := ⟨_, rfl⟩
                have HW9 : Hid ((wr.alloc (.cells #[.int .i64 0, .string ⟨#[]⟩, .int .i64 0, .int .i64 0] 40)).setCells wr.heap.size 0 cs = w9) := hw9
                have HB9 : Hid (Below wr.heap.size wr w9) := by rw [← hw9]; exact below_setCells ((Below.refl _ _).alloc (Nat.le_refl _) _) (Nat.le_refl _) (Nat.le_refl _) _ _
                have k0 : w9.cell? ⟨wr.heap.size, 0, none⟩ = some (.int .i64 (-(q : Int) - 1)) := by
                  rw [← hw9]
                  exact World.rangeAt_setCells_same _ wr.heap.size 0 cs (by have := HTH.out; rw [show cs.toArray.size = cs.length by rw [List.size_toArray]] at this; exact this) 0 _ HC0.out
                have a0 := cell_past HB9.out b2
                have a1 := cell_past HB9.out hcell
                clear hcs hw9
                go_wp2_with (first
                  | (refine wpList_load_mid rfl 40 _ rfl gb (p * 4) rfl cs _ HRA.out Tryz.underlying40 rfl (by rw [HL.out]; kernel_rfl) ?_)
                  | (refine wpList_store_mid rfl 40 _ _ rfl wr.heap.size 0 cs.toArray rfl rfl HTH.out (by rw [List.size_toArray, HL.out]; kernel_rfl) (all_oneCell_toArray HO1.out) ?_
                     rw [show cs.toArray.toList = cs from rfl, HW9.out])
                  | fail)
                exact ⟨⟨p + 1, rfl, by rw [show ((p + 1 : Nat) : Int) = (p : Int) + 1 by omega], by omega, below_more HB.out HB9.out⟩, by simp [intOf]; omega⟩
            · obtain rfl : p = z + G := by omega
              have hpi' : ¬ ((z + G : Nat) : Int) < ((z + G : Nat) : Int) := by omega
              go_wp2_with fail
              exact ⟨⟨q + 1, rfl, by rw [show ((q + 1 : Nat) : Int) = (q : Int) + 1 by omega], by omega, HB⟩, by simp [intOf]; omega⟩
        · obtain rfl : m = q := by omega
          have hqi : ¬ (m : Int) < (m : Int) := by omega
          go_wp2_with fail
          go_ret
          exact ⟨rfl, HB.out⟩
end Go.Proofs.YtbblckcjedjbcaaGreatDoor.J
