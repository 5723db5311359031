import Derived.Test.YtbblckcjedjbcaaGreatDoorJGrow2
namespace Go.Proofs.YtbblckcjedjbcaaGreatDoor.J
open Go.RowKit
set_option linter.unusedVariables false
set_option linter.unusedSimpArgs false

theorem row_el {w : World} {T sz g c n p : Nat} {l : List (El sz)} {e : El sz} (hr : w.ownsRow 0 T sz (.slice (some ⟨g, 0, none⟩) n c) n (fl l)) (hp : l[p]? = some e) (j : Nat) (u : Value) (hj : e.1[j]? = some u) : w.cell? ⟨g, p * sz + j, none⟩ = some u :=
  cell_n hr (flat_at (cells := fun e : El sz => e.1) (fun e => e.2.1) hp hj)
theorem cell_past {w w' : World} {a : Addr} {v : Value} (hb : Below w.heap.size w w') (h : w.cell? a = some v) : w'.cell? a = some v := by
  rw [hb.cell (p := a) ?_]
  · exact h
  · apply Decidable.byContradiction
    intro hn
    have : w.heap[a.block]? = none := Array.getElem?_eq_none (by omega)
    simp [World.cell?, this] at h
theorem below_more {w wr w2 : World} (h : Below w.heap.size w wr) (k : Below wr.heap.size wr w2) : Below w.heap.size w w2 :=
  ⟨k.os.trans h.os, k.tape.trans h.tape, k.output.trans h.output, Nat.le_trans h.size k.size, fun j hj => by rw [k.block j (Nat.lt_of_lt_of_le hj h.size)]; exact h.block j hj⟩
theorem Rs.on {w w' : World} {tH T sz : Nat} {mk : Int → El sz} {gv : Value} {gs : List Value} {ls : List (List (El sz))} (h : Rs w tH T sz mk gv gs ls) (hb : Below w.heap.size w w') : Rs w' tH T sz mk gv gs ls :=
  ⟨owns_below h.gr hb, fun j g l hg hl => owns_below (h.rd j g l hg hl) hb⟩
theorem bhd_len {sz : Nat} (mk : Int → El sz) (q : Nat) : (bhd mk q).length = grB q := by unfold bhd; rw [List.length_replicate]
/-- What lies in the grown list of the number q. -/
theorem Rs.el {w : World} {tH T sz : Nat} {mk : Int → El sz} {gv : Value} {gs : List Value} {ls : List (List (El sz))} {L : List Nat} {N q : Nat} {l : List (El sz)} (h : Rs w tH T sz mk gv gs ls) (hK : Mk mk L ls N) (hq : q < N) (hgq : q < gs.length) (hl : ls[q]? = some l) :
    ∃ gg gc gb bc, gv = .slice (some ⟨gg, 0, none⟩) gs.length gc ∧ w.cell? ⟨gg, q, none⟩ = some (.slice (some ⟨gb, 0, none⟩) (l.length + grB q) bc) ∧ ∀ p, p < l.length + grB q → ∀ j u, (mk (if p < l.length then (q : Int) + 1 else -(q : Int) - 1)).1[j]? = some u → w.cell? ⟨gb, p * sz + j, none⟩ = some u := by
  obtain ⟨g, hg⟩ : ∃ g, gs[q]? = some g := ⟨_, List.getElem?_eq_getElem hgq⟩
  have hr := h.rd q g l hg hl
  rw [bhd_len] at hr
  have hG : 0 < grB q := by unfold grB; split <;> omega
  obtain ⟨gb, bc, rfl, _⟩ := hr.form (by omega)
  obtain ⟨gg, gc, rfl, _⟩ := h.gr.form (by omega)
  refine ⟨gg, gc, gb, bc, rfl, cell_n h.gr hg, fun p hp j u hj => ?_⟩
  have hfl : fl l ++ fl (bhd mk q) = fl (l ++ bhd mk q) := by simp [fl]
  rw [hfl] at hr
  refine row_el hr ?_ j u hj
  by_cases hpl : p < l.length
  · rw [if_pos hpl, List.getElem?_append_left hpl, List.getElem?_eq_getElem hpl]
    rw [hK.old q l hl hq p _ (List.getElem?_eq_getElem hpl)]
  · rw [if_neg hpl, List.getElem?_append_right (by omega)]
    unfold bhd
    rw [List.getElem?_replicate, if_pos (by omega)]
set_option maxHeartbeats 25600000 in
set_option maxRecDepth 100000 in
theorem bstands_any (B : Nat) (hv hn gv gn : Value) (us ms gs gm : List Value) (ls : List (List (El 2))) (ns : List (List (El 4))) (L1 L2 : List Nat) (w : World) (h : Bo w B hv hn gv gn us ms ls ns) (hR : Rs w 37 34 2 mkV gv gs ls) (hgl : gs.length = us.length) (hN : Rs w 43 40 4 mkN gn gm ns) (hml : gm.length = ms.length) (hK1 : Mk mkV L1 ls us.length) (hK2 : Mk mkN L2 ns ms.length) (hu : us.length ≤ 1000) (hm : ms.length ≤ 1000) (hul : ∀ l ∈ ls, l.length ≤ 1000) (hnl : ∀ l ∈ ns, l.length ≤ 1000) :
    Calls Tryz.prog 24 #[.pointer (some ⟨B, 0, none⟩)] w fun e w' => e = .returned (.bool true) ∧ Below w.heap.size w w' := by
  obtain ⟨n, hnn⟩ : ∃ n, us.length = n := ⟨_, rfl⟩
  obtain ⟨m, hmm⟩ : ∃ m, ms.length = m := ⟨_, rfl⟩
  obtain ⟨va, vc, rfl⟩ : ∃ va vc, hv = .slice va n vc := by
    rcases h.hr.2 with ⟨rfl, h0⟩ | ⟨g, cap, cur, rfl, _⟩
    · exact ⟨none, 0, by rw [← hnn, h0]⟩
    · exact ⟨_, _, by rw [hnn]⟩
  obtain ⟨na, nc, rfl⟩ : ∃ na nc, hn = .slice na m nc := by
    rcases h.nr.2 with ⟨rfl, h0⟩ | ⟨g, cap, cur, rfl, _⟩
    · exact ⟨none, 0, by rw [← hmm, h0]⟩
    · exact ⟨_, _, by rw [hmm]⟩
  rw [hnn] at hu hgl hK1
  rw [hmm] at hm hml hK2
  have HU : Hid (us.length = n) := hnn
  have HM : Hid (ms.length = m) := hmm
  have HUL : Hid (∀ l ∈ ls, l.length ≤ 1000) := hul
  have HML : Hid (∀ l ∈ ns, l.length ≤ 1000) := hnl
  have H0 : Hid (Bo w B (.slice va n vc) (.slice na m nc) gv gn us ms ls ns) := h
  have HR : Hid (Rs w 37 34 2 mkV gv gs ls) := hR
  have HN : Hid (Rs w 43 40 4 mkN gn gm ns) := hN
  have HGL : Hid (gs.length = n) := hgl
  have HNL : Hid (gm.length = m) := hml
  have HK1 : Hid (Mk mkV L1 ls n) := hK1
  have HK2 : Hid (Mk mkN L2 ns m) := hK2
  clear h hnn hmm hul hnl hR hN hgl hml hK1 hK2
  go_enter Tryz.func24, Tryz.ntmps24
  go_wp2_with fail
  go_loopw [3, 4] (fun ok k wr => ∃ (q : Nat), ok = .bool true ∧ k = .int .i64 q ∧ q ≤ n ∧ Hid (Below w.heap.size w wr)) (fun _ k _ => n - (intOf k).toNat)
  case atStart => exact ⟨0, rfl, rfl, Nat.zero_le _, Below.refl _ _⟩
  case round =>
    obtain ⟨q, rfl, rfl, hq, HB⟩ := hrel
    have HO : Hid (Bo wr B (.slice va n vc) (.slice na m nc) gv gn us ms ls ns) := H0.out.on HB.out
    obtain ⟨b0, b1, b2, b3⟩ := cells_4 HO.out.box
    by_cases hlt : q < n
    · have hqi : (q : Int) < (n : Int) := by omega
      obtain ⟨u, hu⟩ : ∃ u, us[q]? = some u := ⟨us[q]'(by rw [HU.out]; exact hlt), List.getElem?_eq_getElem _⟩
      obtain ⟨l, hl, hr⟩ := HO.out.fu.get hu
      obtain ⟨hg, hcc, hhv, hcell⟩ := HO.out.cellV hu
      rw [HU.out] at hhv
      simp only [Value.slice.injEq, true_and] at hhv
      obtain ⟨hva, -⟩ := hhv
      have HVA : Hid (va = some ⟨hg, 0, none⟩) := hva
      rw [hva] at b0
      clear hva
      obtain ⟨z, hz⟩ : ∃ z, l.length = z := ⟨_, rfl⟩
      obtain ⟨G, hGG⟩ : ∃ G, grB q = G := ⟨_, rfl⟩
      have hG96 : G ≤ 96 := by rw [← hGG]; exact grB_le q
      obtain ⟨ua, uc, rfl⟩ : ∃ ua uc, u = .slice ua z uc := by
        rcases hr.2 with ⟨rfl, h0⟩ | ⟨g, cap, cur, rfl, _⟩
        · exact ⟨none, 0, by rw [← hz, h0]⟩
        · exact ⟨_, _, by rw [hz]⟩
      have hz1000 : z ≤ 1000 := by rw [← hz]; exact HUL.out l (List.mem_of_getElem? hl)
      have HUQ : Hid (us[q]? = some (.slice ua z uc)) := hu
      have HLQ : Hid (ls[q]? = some l) := hl
      have HLZ : Hid (l.length = z) := hz
      have hqw : IntKind.i64.wrap ((q : Int) + 1) = (q : Int) + 1 := by rw [IntKind.wrap_i64]; omega
      have hn1 : IntKind.i64.wrap (-(q : Int)) = -(q : Int) := by rw [IntKind.wrap_i64]; omega
      have hn2 : IntKind.i64.wrap (-(q : Int) - 1) = -(q : Int) - 1 := by rw [IntKind.wrap_i64]; omega
      obtain ⟨gg, gc, gb, bc, hgv, hgc, hx⟩ := HR.out.el HK1.out hlt (by rw [HGL.out]; exact hlt) hl
      rw [hz, hGG] at hgc hx
      rw [HGL.out] at hgv
      have HGV : Hid (gv = .slice (some ⟨gg, 0, none⟩) n gc) := hgv
      have HGC : Hid (w.cell? ⟨gg, q, none⟩ = some (.slice (some ⟨gb, 0, none⟩) (z + G) bc)) := hgc
      have HX : Hid (∀ p, p < z + G → ∀ j u, (mkV (if p < z then (q : Int) + 1 else -(q : Int) - 1)).1[j]? = some u → w.cell? ⟨gb, p * 2 + j, none⟩ = some u) := hx
      have hgq : wr.cell? ⟨gg, q, none⟩ = some (.slice (some ⟨gb, 0, none⟩) (z + G) bc) := cell_past HB.out hgc
      rw [hgv] at b1
      clear hu hl hr hz hGG hgv hx hgc
      go_wp2_with fail
      go_loopw [3, 5] (fun ok i wr => ∃ (p : Nat), ok = .bool true ∧ i = .int .i64 p ∧ p ≤ z + G ∧ Hid (Below w.heap.size w wr)) (fun _ i _ => z + G - (intOf i).toNat)
      case atStart => exact ⟨0, rfl, rfl, Nat.zero_le _, HB⟩
      case round =>
        clear b0 b1 b2 b3 hcell hgq HO HB
        obtain ⟨p, rfl, rfl, hp, HB⟩ := hrel
        have HO : Hid (Bo wr B (.slice va n vc) (.slice na m nc) gv gn us ms ls ns) := H0.out.on HB.out
        obtain ⟨b0, b1, b2, b3⟩ := cells_4 HO.out.box
        have hcell : wr.cell? ⟨hg, q, none⟩ = some (.slice ua z uc) := by
          obtain ⟨hg', hcc', hhv, hcell⟩ := HO.out.cellV HUQ.out
          rw [HU.out, HVA.out] at hhv
          simp only [Value.slice.injEq, true_and, Option.some.injEq, Addr.mk.injEq, and_true] at hhv
          rw [hhv.1]
          exact hcell
        have hgq : wr.cell? ⟨gg, q, none⟩ = some (.slice (some ⟨gb, 0, none⟩) (z + G) bc) := cell_past HB.out HGC.out
        rw [HVA.out] at b0
        rw [HGV.out] at b1
        have hfz : (⟨B, 0, none⟩ : Addr).block < w.heap.size := lt_of_blk H0.out.box
        by_cases hltp : p < z + G
        · have hpi : (p : Int) < (z : Int) + (G : Int) := by omega
          have hpi' : (p : Int) < ((z + G : Nat) : Int) := by omega
          by_cases hpz : p < z
          · have hpzi : (p : Int) < (z : Int) := by omega
            have hpzi' : ¬ (z : Int) ≤ (p : Int) := by omega
            have hx := HX.out p hltp
            rw [if_pos hpz] at hx
            have x0 : wr.cell? ⟨gb, p * 2, none⟩ = some (.int .i64 0) := cell_past HB.out (hx 0 _ rfl)
            have x1 : wr.cell? ⟨gb, p * 2 + 1, none⟩ = some (.int .i64 ((q : Int) + 1)) := cell_past HB.out (hx 1 _ rfl)
            have hrow := HO.out.fu.row q _ l HUQ.out HLQ.out
            rw [HLZ.out] at hrow
            obtain ⟨ub, rfl⟩ : ∃ ub, ua = some ⟨ub, 0, none⟩ := by
              rcases hrow.2 with ⟨h1, h0⟩ | ⟨g, cap, cur, h1, _⟩
              · omega
              · simp only [Value.slice.injEq] at h1; exact ⟨g, h1.1⟩
            have hle : p < l.length := by rw [HLZ.out]; exact hpz
            have hel : l[p]? = some (mkV ((q : Int) + 1)) := by rw [List.getElem?_eq_getElem hle, ← HK1.out.old q l HLQ.out hlt p _ (List.getElem?_eq_getElem hle)]
            have hy := row_el hrow hel
            have HW : Below wr.heap.size wr (wr.alloc (.cells #[.int .i64 0, .int .i64 ((q : Int) + 1)] 34)) := (Below.refl _ _).alloc (Nat.le_refl _) _
            have a0 := cell_past HW b0
            have a1 := cell_past HW hcell
            have y0 : (wr.alloc (.cells #[.int .i64 0, .int .i64 ((q : Int) + 1)] 34)).cell? ⟨ub, p * 2, none⟩ = some (.int .i64 0) := cell_past HW (hy 0 _ rfl)
            have y1 : (wr.alloc (.cells #[.int .i64 0, .int .i64 ((q : Int) + 1)] 34)).cell? ⟨ub, p * 2 + 1, none⟩ = some (.int .i64 ((q : Int) + 1)) := cell_past HW (hy 1 _ rfl)
            have HW2 : Hid (Below wr.heap.size wr (wr.alloc (.cells #[.int .i64 0, .int .i64 ((q : Int) + 1)] 34))) := HW
            clear hx hy hel hrow HW hle
            go_wp2_with fail
            exact ⟨⟨p + 1, rfl, by rw [show ((p + 1 : Nat) : Int) = (p : Int) + 1 by omega], by omega, HB.out.alloc HB.out.size _⟩, by simp [intOf]; omega⟩
          · have hpzi : ¬ (p : Int) < (z : Int) := by omega
            have hpzi' : (z : Int) ≤ (p : Int) := by omega
            have hx := HX.out p hltp
            rw [if_neg hpz] at hx
            have x0 : wr.cell? ⟨gb, p * 2, none⟩ = some (.int .i64 0) := cell_past HB.out (hx 0 _ rfl)
            have x1 : wr.cell? ⟨gb, p * 2 + 1, none⟩ = some (.int .i64 (-(q : Int) - 1)) := cell_past HB.out (hx 1 _ rfl)
            have HW : Below wr.heap.size wr (wr.alloc (.cells #[.int .i64 0, .int .i64 (-(q : Int) - 1)] 34)) := (Below.refl _ _).alloc (Nat.le_refl _) _
            have a0 := cell_past HW b0
            have a1 := cell_past HW hcell
            have HW2 : Hid (Below wr.heap.size wr (wr.alloc (.cells #[.int .i64 0, .int .i64 (-(q : Int) - 1)] 34))) := HW
            clear hx HW
            go_wp2_with fail
            exact ⟨⟨p + 1, rfl, by rw [show ((p + 1 : Nat) : Int) = (p : Int) + 1 by omega], by omega, HB.out.alloc HB.out.size _⟩, by simp [intOf]; omega⟩
        · obtain rfl : p = z + G := by omega
          have hpi' : ¬ ((z + G : Nat) : Int) < ((z + G : Nat) : Int) := by omega
          go_wp2_with fail
          exact ⟨⟨q + 1, rfl, by rw [show ((q + 1 : Nat) : Int) = (q : Int) + 1 by omega], by omega, HB⟩, by simp [intOf]; omega⟩
    · obtain rfl : n = q := by omega
      have hqi : ¬ (n : Int) < (n : Int) := by omega
      have HBV : Hid (Below w.heap.size w wr) := HB
      clear HO HB
      go_wp2_with fail
      go_loopw [3, 8] (fun ok k wr => ∃ (q : Nat), ok = .bool true ∧ k = .int .i64 q ∧ q ≤ m ∧ Hid (Below w.heap.size w wr)) (fun _ k _ => m - (intOf k).toNat)
      case atStart => exact ⟨0, rfl, rfl, Nat.zero_le _, HBV⟩
      case round =>
        obtain ⟨q, rfl, rfl, hq, HB⟩ := hrel
        have HO : Hid (Bo wr B (.slice va n vc) (.slice na m nc) gv gn us ms ls ns) := H0.out.on HB.out
        obtain ⟨b0, b1, b2, b3⟩ := cells_4 HO.out.box
        by_cases hlt : q < m
        · have hqi : (q : Int) < (m : Int) := by omega
          obtain ⟨u, hu⟩ : ∃ u, ms[q]? = some u := ⟨ms[q]'(by rw [HM.out]; exact hlt), List.getElem?_eq_getElem _⟩
          obtain ⟨l, hl, hr⟩ := HO.out.fm.get hu
          obtain ⟨hg, hcc, hhv, hcell⟩ := HO.out.cellN hu
          rw [HM.out] at hhv
          simp only [Value.slice.injEq, true_and] at hhv
          obtain ⟨hva, -⟩ := hhv
          have HVA : Hid (na = some ⟨hg, 0, none⟩) := hva
          rw [hva] at b2
          clear hva
          obtain ⟨z, hz⟩ : ∃ z, l.length = z := ⟨_, rfl⟩
          obtain ⟨G, hGG⟩ : ∃ G, grB q = G := ⟨_, rfl⟩
          have hG96 : G ≤ 96 := by rw [← hGG]; exact grB_le q
          obtain ⟨ua, uc, rfl⟩ : ∃ ua uc, u = .slice ua z uc := by
            rcases hr.2 with ⟨rfl, h0⟩ | ⟨g, cap, cur, rfl, _⟩
            · exact ⟨none, 0, by rw [← hz, h0]⟩
            · exact ⟨_, _, by rw [hz]⟩
          have hz1000 : z ≤ 1000 := by rw [← hz]; exact HML.out l (List.mem_of_getElem? hl)
          have HUQ : Hid (ms[q]? = some (.slice ua z uc)) := hu
          have HLQ : Hid (ns[q]? = some l) := hl
          have HLZ : Hid (l.length = z) := hz
          have hqw : IntKind.i64.wrap ((q : Int) + 1) = (q : Int) + 1 := by rw [IntKind.wrap_i64]; omega
          have hn1 : IntKind.i64.wrap (-(q : Int)) = -(q : Int) := by rw [IntKind.wrap_i64]; omega
          have hn2 : IntKind.i64.wrap (-(q : Int) - 1) = -(q : Int) - 1 := by rw [IntKind.wrap_i64]; omega
          obtain ⟨gg, gc, gb, bc, hgv, hgc, hx⟩ := HN.out.el HK2.out hlt (by rw [HNL.out]; exact hlt) hl
          rw [hz, hGG] at hgc hx
          rw [HNL.out] at hgv
          have HGV : Hid (gn = .slice (some ⟨gg, 0, none⟩) m gc) := hgv
          have HGC : Hid (w.cell? ⟨gg, q, none⟩ = some (.slice (some ⟨gb, 0, none⟩) (z + G) bc)) := hgc
          have HX : Hid (∀ p, p < z + G → ∀ j u, (mkN (if p < z then (q : Int) + 1 else -(q : Int) - 1)).1[j]? = some u → w.cell? ⟨gb, p * 4 + j, none⟩ = some u) := hx
          have hgq : wr.cell? ⟨gg, q, none⟩ = some (.slice (some ⟨gb, 0, none⟩) (z + G) bc) := cell_past HB.out hgc
          rw [hgv] at b3
          clear hu hl hr hz hGG hgv hx hgc
          go_wp2_with fail
          go_loopw [3, 9] (fun ok i wr => ∃ (p : Nat), ok = .bool true ∧ i = .int .i64 p ∧ p ≤ z + G ∧ Hid (Below w.heap.size w wr)) (fun _ i _ => z + G - (intOf i).toNat)
          case atStart => exact ⟨0, rfl, rfl, Nat.zero_le _, HB⟩
          case round =>
            clear b0 b1 b2 b3 hcell hgq HO HB
            obtain ⟨p, rfl, rfl, hp, HB⟩ := hrel
            have HO : Hid (Bo wr B (.slice va n vc) (.slice na m nc) gv gn us ms ls ns) := H0.out.on HB.out
            obtain ⟨b0, b1, b2, b3⟩ := cells_4 HO.out.box
            have hcell : wr.cell? ⟨hg, q, none⟩ = some (.slice ua z uc) := by
              obtain ⟨hg', hcc', hhv, hcell⟩ := HO.out.cellN HUQ.out
              rw [HM.out, HVA.out] at hhv
              simp only [Value.slice.injEq, true_and, Option.some.injEq, Addr.mk.injEq, and_true] at hhv
              rw [hhv.1]
              exact hcell
            have hgq : wr.cell? ⟨gg, q, none⟩ = some (.slice (some ⟨gb, 0, none⟩) (z + G) bc) := cell_past HB.out HGC.out
            rw [HVA.out] at b2
            rw [HGV.out] at b3
            have hfz : (⟨B, 0, none⟩ : Addr).block < w.heap.size := lt_of_blk H0.out.box
            by_cases hltp : p < z + G
            · have hpi : (p : Int) < (z : Int) + (G : Int) := by omega
              have hpi' : (p : Int) < ((z + G : Nat) : Int) := by omega
              by_cases hpz : p < z
              · have hpzi : (p : Int) < (z : Int) := by omega
                have hpzi' : ¬ (z : Int) ≤ (p : Int) := by omega
                obtain ⟨cs, hcs⟩ : ∃ cs, (mkN ((q : Int) + 1)).1 = cs := ⟨_, rfl⟩
                have HL : Hid (cs.length = 4) := by rw [← hcs]; exact (mkN _).2.1
                have HO1 : Hid (∀ v ∈ cs, v.oneCell' = true) := by rw [← hcs]; exact (mkN _).2.2
                have HC0 : Hid (cs[0]? = some (.int .i64 ((q : Int) + 1))) := by rw [← hcs]; rfl
                have HRA : Hid (wr.rangeAt gb (p * 4) cs) := fun j v hj => cell_past HB.out (HX.out p hltp j v (by rw [if_pos hpz, hcs]; exact hj))
                have hrow := HO.out.fm.row q _ l HUQ.out HLQ.out
                rw [HLZ.out] at hrow
                obtain ⟨ub, rfl⟩ : ∃ ub, ua = some ⟨ub, 0, none⟩ := by
                  rcases hrow.2 with ⟨h1, h0⟩ | ⟨g, cap, cur, h1, _⟩
                  · omega
                  · simp only [Value.slice.injEq] at h1; exact ⟨g, h1.1⟩
                have hle : p < l.length := by rw [HLZ.out]; exact hpz
                have hel : l[p]? = some (mkN ((q : Int) + 1)) := by rw [List.getElem?_eq_getElem hle, ← HK2.out.old q l HLQ.out hlt p _ (List.getElem?_eq_getElem hle)]
                have hy := row_el hrow hel
                have HTH : Hid ((wr.alloc (.cells #[.int .i64 0, .string ⟨#[]⟩, .int .i64 0, .int .i64 0] 40)).there wr.heap.size 0 cs.toArray.size) := by
                  rw [show cs.toArray.size = 4 by rw [List.size_toArray]; exact HL.out]
                  exact there_of (heap_alloc_new _ _) (by decide)
                obtain ⟨w9, hw9⟩ : ∃ w9, (wr.alloc (.cells #[.int .i64 0, .string ⟨#[]⟩, .int .i64 0, .int .i64 0] 40)).setCells wr.heap.size 0 cs = w9 := ⟨_, rfl⟩
                have HW9 : Hid ((wr.alloc (.cells #[.int .i64 0, .string ⟨#[]⟩, .int .i64 0, .int .i64 0] 40)).setCells wr.heap.size 0 cs = w9) := hw9
                have HB9 : Hid (Below wr.heap.size wr w9) := by rw [← hw9]; exact below_setCells ((Below.refl _ _).alloc (Nat.le_refl _) _) (Nat.le_refl _) (Nat.le_refl _) _ _
                have k0 : w9.cell? ⟨wr.heap.size, 0, none⟩ = some (.int .i64 ((q : Int) + 1)) := by
                  rw [← hw9]
                  exact World.rangeAt_setCells_same _ wr.heap.size 0 cs (by have := HTH.out; rw [show cs.toArray.size = cs.length by rw [List.size_toArray]] at this; exact this) 0 _ HC0.out
                have a0 := cell_past HB9.out b2
                have a1 := cell_past HB9.out hcell
                have HRB : Hid (w9.rangeAt ub (p * 4) cs) := fun j v hj => cell_past HB9.out (hy j v (by rw [hcs]; exact hj))
                have HT9 : Hid (w9.there wr.heap.size 0 cs.toArray.size) := by rw [← hw9]; exact World.there_setCells HTH.out _ _ _
                obtain ⟨w10, hw10⟩ : ∃ w10, w9.setCells wr.heap.size 0 cs = w10 := ⟨_, rfl⟩
                have HW10 : Hid (w9.setCells wr.heap.size 0 cs = w10) := hw10
                have HB10 : Hid (Below wr.heap.size wr w10) := by rw [← hw10]; exact below_setCells HB9.out (Nat.le_refl _) (Nat.le_refl _) _ _
                have k1 : w10.cell? ⟨wr.heap.size, 0, none⟩ = some (.int .i64 ((q : Int) + 1)) := by
                  rw [← hw10]
                  exact World.rangeAt_setCells_same _ wr.heap.size 0 cs (by have := HT9.out; rw [show cs.toArray.size = cs.length by rw [List.size_toArray]] at this; exact this) 0 _ HC0.out
                clear hy hel hrow hle hcs hw9 hw10
                go_wp2_with (first
                  | (refine wpList_load_mid rfl 40 _ rfl gb (p * 4) rfl cs _ HRA.out Tryz.underlying40 rfl (by rw [HL.out]; kernel_rfl) ?_)
                  | (refine wpList_store_mid rfl 40 _ _ rfl wr.heap.size 0 cs.toArray rfl rfl HTH.out (by rw [List.size_toArray, HL.out]; kernel_rfl) (all_oneCell_toArray HO1.out) ?_
                     rw [show cs.toArray.toList = cs from rfl, HW9.out])
                  | (refine wpList_load_mid rfl 40 _ rfl ub (p * 4) rfl cs _ HRB.out Tryz.underlying40 rfl (by rw [HL.out]; kernel_rfl) ?_)
                  | (refine wpList_store_mid rfl 40 _ _ rfl wr.heap.size 0 cs.toArray rfl rfl HT9.out (by rw [List.size_toArray, HL.out]; kernel_rfl) (all_oneCell_toArray HO1.out) ?_
                     rw [show cs.toArray.toList = cs from rfl, HW10.out])
                  | fail)
                exact ⟨⟨p + 1, rfl, by rw [show ((p + 1 : Nat) : Int) = (p : Int) + 1 by omega], by omega, below_more HB.out HB10.out⟩, by simp [intOf]; omega⟩
              · have hpzi : ¬ (p : Int) < (z : Int) := by omega
                have hpzi' : (z : Int) ≤ (p : Int) := by omega
                obtain ⟨cs, hcs⟩ : ∃ cs, (mkN (-(q : Int) - 1)).1 = cs := ⟨_, rfl⟩
                have HL : Hid (cs.length = 4) := by rw [← hcs]; exact (mkN _).2.1
                have HO1 : Hid (∀ v ∈ cs, v.oneCell' = true) := by rw [← hcs]; exact (mkN _).2.2
                have HC0 : Hid (cs[0]? = some (.int .i64 (-(q : Int) - 1))) := by rw [← hcs]; rfl
                have HRA : Hid (wr.rangeAt gb (p * 4) cs) := fun j v hj => cell_past HB.out (HX.out p hltp j v (by rw [if_neg hpz, hcs]; exact hj))
                have HTH : Hid ((wr.alloc (.cells #[.int .i64 0, .string ⟨#[]⟩, .int .i64 0, .int .i64 0] 40)).there wr.heap.size 0 cs.toArray.size) := by
                  rw [show cs.toArray.size = 4 by rw [List.size_toArray]; exact HL.out]
                  exact there_of (heap_alloc_new _ _) (by decide)
                obtain ⟨w9, hw9⟩ : ∃ w9, (wr.alloc (.cells #[.int .i64 0, .string ⟨#[]⟩, .int .i64 0, .int .i64 0] 40)).setCells wr.heap.size 0 cs = w9 := ⟨_, rfl⟩
                have HW9 : Hid ((wr.alloc (.cells #[.int .i64 0, .string ⟨#[]⟩, .int .i64 0, .int .i64 0] 40)).setCells wr.heap.size 0 cs = w9) := hw9
                have HB9 : Hid (Below wr.heap.size wr w9) := by rw [← hw9]; exact below_setCells ((Below.refl _ _).alloc (Nat.le_refl _) _) (Nat.le_refl _) (Nat.le_refl _) _ _
                have k0 : w9.cell? ⟨wr.heap.size, 0, none⟩ = some (.int .i64 (-(q : Int) - 1)) := by
                  rw [← hw9]
                  exact World.rangeAt_setCells_same _ wr.heap.size 0 cs (by have := HTH.out; rw [show cs.toArray.size = cs.length by rw [List.size_toArray]] at this; exact this) 0 _ HC0.out
                have a0 := cell_past HB9.out b2
                have a1 := cell_past HB9.out hcell
                clear hcs hw9
                go_wp2_with (first
                  | (refine wpList_load_mid rfl 40 _ rfl gb (p * 4) rfl cs _ HRA.out Tryz.underlying40 rfl (by rw [HL.out]; kernel_rfl) ?_)
                  | (refine wpList_store_mid rfl 40 _ _ rfl wr.heap.size 0 cs.toArray rfl rfl HTH.out (by rw [List.size_toArray, HL.out]; kernel_rfl) (all_oneCell_toArray HO1.out) ?_
                     rw [show cs.toArray.toList = cs from rfl, HW9.out])
                  | fail)
                exact ⟨⟨p + 1, rfl, by rw [show ((p + 1 : Nat) : Int) = (p : Int) + 1 by omega], by omega, below_more HB.out HB9.out⟩, by simp [intOf]; omega⟩
            · obtain rfl : p = z + G := by omega
              have hpi' : ¬ ((z + G : Nat) : Int) < ((z + G : Nat) : Int) := by omega
              go_wp2_with fail
              exact ⟨⟨q + 1, rfl, by rw [show ((q + 1 : Nat) : Int) = (q : Int) + 1 by omega], by omega, HB⟩, by simp [intOf]; omega⟩
        · obtain rfl : m = q := by omega
          have hqi : ¬ (m : Int) < (m : Int) := by omega
          go_wp2_with fail
          go_ret
          exact ⟨rfl, HB.out⟩
end Go.Proofs.YtbblckcjedjbcaaGreatDoor.J
namespace Go.Proofs.YtbblckcjedjbcaaGreatDoor.J
open Go.RowKit
set_option linter.unusedVariables false
set_option linter.unusedSimpArgs false

/-- The book behind grow: what stands asks. -/
structure Gd (w : World) (B : Nat) (hv hn gv gn : Value) (us ms gs gm : List Value) (ls : List (List (El 2))) (ns : List (List (El 4))) (L1 L2 : List Nat) : Prop where
  bo : Bo w B hv hn gv gn us ms ls ns
  rv : Rs w 37 34 2 mkV gv gs ls
  gl : gs.length = us.length
  rn : Rs w 43 40 4 mkN gn gm ns
  ml : gm.length = ms.length
  k1 : Mk mkV L1 ls us.length
  k2 : Mk mkN L2 ns ms.length
  u1 : us.length ≤ 1000
  u2 : ms.length ≤ 1000
  l1 : ∀ l ∈ ls, l.length ≤ 1000
  l2 : ∀ l ∈ ns, l.length ≤ 1000
theorem Gd.stands {w : World} {B : Nat} {hv hn gv gn : Value} {us ms gs gm : List Value} {ls : List (List (El 2))} {ns : List (List (El 4))} {L1 L2 : List Nat} (h : Gd w B hv hn gv gn us ms gs gm ls ns L1 L2) :
    Calls Tryz.prog 24 #[.pointer (some ⟨B, 0, none⟩)] w fun e w' => e = .returned (.bool true) ∧ Below w.heap.size w w' :=
  bstands_any B hv hn gv gn us ms gs gm ls ns L1 L2 w h.bo h.rv h.gl h.rn h.ml h.k1 h.k2 h.u1 h.u2 h.l1 h.l2
def GdB (B : Nat) (hv hn gv gn : Value) (us ms gs gm : List Value) (b : Nat) : Prop := b = B ∨ hv.ownBlock = some b ∨ hn.ownBlock = some b ∨ FamB us b ∨ FamB ms b ∨ RsB gv gs b ∨ RsB gn gm b
theorem Gd.keep {w w' : World} {B : Nat} {hv hn gv gn : Value} {us ms gs gm : List Value} {ls : List (List (El 2))} {ns : List (List (El 4))} {L1 L2 : List Nat} (h : Gd w B hv hn gv gn us ms gs gm ls ns L1 L2) (hk : Kp w w' (GdB B hv hn gv gn us ms gs gm)) : Gd w' B hv hn gv gn us ms gs gm ls ns L1 L2 :=
  ⟨⟨by rw [hk.block B (lt_of_blk h.bo.box) (.inl rfl)]; exact h.bo.box, owns_same h.bo.hr (fun b hb => hk.block b (row_block h.bo.hr b hb).2 (.inr (.inl hb))), owns_same h.bo.nr (fun b hb => hk.block b (row_block h.bo.nr b hb).2 (.inr (.inr (.inl hb)))), h.bo.fu.keep (hk.mono (fun b _ hb => .inr (.inr (.inr (.inl hb))))), h.bo.fm.keep (hk.mono (fun b _ hb => .inr (.inr (.inr (.inr (.inl hb))))))⟩,
   h.rv.keep (by rw [h.gl, h.bo.fu.len]; exact Nat.le_refl _) (hk.mono (fun b _ hb => .inr (.inr (.inr (.inr (.inr (.inl hb))))))), h.gl, h.rn.keep (by rw [h.ml, h.bo.fm.len]; exact Nat.le_refl _) (hk.mono (fun b _ hb => .inr (.inr (.inr (.inr (.inr (.inr hb))))))), h.ml, h.k1, h.k2, h.u1, h.u2, h.l1, h.l2⟩
theorem Mk.bound {sz : Nat} {mk : Int → El sz} {ls ls' : List (List (El sz))} {q c : Nat} (h : Mk mk (ls.map List.length) ls' q) (hl : ∀ l ∈ ls, l.length ≤ c) : ∀ l ∈ ls', l.length ≤ c := fun l hm => by
  have h1 : l.length ∈ ls'.map List.length := List.mem_map_of_mem hm
  rw [h.len] at h1
  obtain ⟨l2, h2, e⟩ := List.mem_map.1 h1
  rw [← e]
  exact hl l2 h2
set_option maxHeartbeats 6400000 in
set_option maxRecDepth 100000 in
theorem apart_any (B : Nat) (hv hn : Value) (us ms : List Value) (ls : List (List (El 2))) (ns : List (List (El 4))) (w : World) (h : Bo w B hv hn (.slice none 0 0) (.slice none 0 0) us ms ls ns) (hu : us.length ≤ 1000) (hm : ms.length ≤ 1000) (hul : ∀ l ∈ ls, l.length ≤ 1000) (hml : ∀ l ∈ ns, l.length ≤ 1000) :
    Calls Tryz.prog 21 #[.pointer (some ⟨B, 0, none⟩)] w fun e w' => e = .returned (.bool true) ∧ ∃ gv gn gs gm ls' ns' L1 L2, Gd w' B hv hn gv gn us ms gs gm ls' ns' L1 L2 ∧ Chg w w' (fun b => b = B ∨ FamB us b ∨ FamB ms b) ∧ (∀ b, RsB gv gs b → FamB us b ∨ w.heap.size ≤ b) ∧ (∀ b, RsB gn gm b → FamB ms b ∨ w.heap.size ≤ b) := by
  have H0 : Hid (Bo w B hv hn (.slice none 0 0) (.slice none 0 0) us ms ls ns) := h
  have HU : Hid (us.length ≤ 1000) := hu
  have HM : Hid (ms.length ≤ 1000) := hm
  have HUL : Hid (∀ l ∈ ls, l.length ≤ 1000) := hul
  have HML : Hid (∀ l ∈ ns, l.length ≤ 1000) := hml
  clear h hu hm hul hml
  go_enter Tryz.func21, Tryz.ntmps21
  go_wp2_with (first
    | (go_at_call 47; refine Calls.mono (full_any B hv hn (.slice none 0 0) (.slice none 0 0) us ms ls ns w H0.out HU.out HM.out (fun k hk => by obtain ⟨l, h1, e⟩ := List.mem_map.1 hk; rw [← e]; exact HUL.out l h1) (fun k hk => by obtain ⟨l, h1, e⟩ := List.mem_map.1 hk; rw [← e]; exact HML.out l h1)) ?_; rintro e w1 ⟨rfl, ⟨ls', ns', h1, m1, m2⟩, c1⟩
       have H1 : Hid (Bo w1 B hv hn (.slice none 0 0) (.slice none 0 0) us ms ls' ns') := h1
       have HK : Hid (Mk mkV (ls.map List.length) ls' us.length ∧ Mk mkN (ns.map List.length) ns' ms.length) := ⟨m1, m2⟩
       have HC1 : Hid (Chg w w1 (fun b => b = B ∨ FamB us b ∨ FamB ms b)) := c1.mono (fun _ _ hh => .inr hh)
       clear h1 m1 m2 c1)
    | (go_at_call 48; refine Calls.mono (grow_any B hv hn us ms ls' ns' w1 H1.out HU.out HM.out (HK.out.1.bound HUL.out) (HK.out.2.bound HML.out)) ?_; rintro e w2 ⟨rfl, gv, gn, gs, gm, h2, r1, g1, r2, g2, c2, n1, n2⟩
       have H2 : Hid (Gd w2 B hv hn gv gn us ms gs gm ls' ns' (ls.map List.length) (ns.map List.length)) := ⟨h2, r1, g1, r2, g2, HK.out.1, HK.out.2, HU.out, HM.out, HK.out.1.bound HUL.out, HK.out.2.bound HML.out⟩
       have HC2 : Hid (Chg w w2 (fun b => b = B ∨ FamB us b ∨ FamB ms b)) := HC1.out.trans c2
       have HN1 : Hid (∀ b, RsB gv gs b → FamB us b ∨ w.heap.size ≤ b) := fun b hb => (n1 b hb).imp_right (Nat.le_trans HC1.out.size)
       have HN2 : Hid (∀ b, RsB gn gm b → FamB ms b ∨ w.heap.size ≤ b) := fun b hb => (n2 b hb).imp_right (Nat.le_trans HC1.out.size)
       clear h2 r1 g1 r2 g2 c2 n1 n2)
    | (go_at_call 24; refine Calls.mono H2.out.stands ?_; rintro e w3 ⟨rfl, hb3⟩
       have H3 : Hid (Below w2.heap.size w2 w3) := hb3
       clear hb3)
    | fail)
  go_ret
  exact ⟨rfl, gv, gn, gs, gm, ls', ns', _, _, H2.out.keep (Kp.of_below H3.out _), HC2.out.trans (Chg.of_below H3.out _), HN1.out, HN2.out⟩
end Go.Proofs.YtbblckcjedjbcaaGreatDoor.J
namespace Go.Proofs.YtbblckcjedjbcaaGreatDoor.J
open Go.RowKit
set_option linter.unusedVariables false
set_option linter.unusedSimpArgs false

theorem Bo.pushV {w w2 w3 : World} {B g3 c3 : Nat} {hv hn m1 m2 u : Value} {us ms : List Value} {ls : List (List (El 2))} {ns : List (List (El 4))} {l : List (El 2)} (h : Bo w B hv hn m1 m2 us ms ls ns) (hr : w.ownsRow 0 34 2 u l.length (fl l)) (hne : ∀ b, u.ownBlock = some b → ¬ FamB us b) (hb : Below w.heap.size w w2)
    (h3 : w3.ownsRow 0 37 1 (.slice (some ⟨g3, 0, none⟩) (us.length + 1) c3) (us.length + 1) (us ++ [u])) (hal : (hv = .slice (some ⟨g3, 0, none⟩) us.length c3 ∧ w2.grownBy w3 (some g3)) ∨ (w2.heap.size ≤ g3 ∧ w2.grownBy w3 none)) :
    Bo (w3.setCell ⟨B, 0, none⟩ (.slice (some ⟨g3, 0, none⟩) (us.length + 1) c3)) B (.slice (some ⟨g3, 0, none⟩) (us.length + 1) c3) hn m1 m2 (us ++ [u]) ms (ls ++ [l]) ns ∧ Chg w (w3.setCell ⟨B, 0, none⟩ (.slice (some ⟨g3, 0, none⟩) (us.length + 1) c3)) (fun b => b = B ∨ hv.ownBlock = some b) := by
  have h2 := h.on hb
  obtain ⟨row, hg, hrow⟩ : ∃ row, w2.grownBy w3 row ∧ ∀ b, row = some b → hv.ownBlock = some b := by
    rcases hal with ⟨e, hg3⟩ | ⟨_, hg3⟩
    · exact ⟨_, hg3, fun b hb => by cases hb; rw [e]; rfl⟩
    · exact ⟨_, hg3, fun b hb => by cases hb⟩
  have hc : Chg w2 w3 (fun b => row = some b) := Chg.grown hg
  have hB : w3.heap[B]? = some (.cells #[hv, m1, hn, m2] 60 (0, 0)) := by rw [hc.block B (lt_of_blk h2.box) (fun e' => kind_box h2.hr (hrow B e') h2.box (by decide) rfl)]; exact h2.box
  have keep : ∀ {T sz n : Nat} {v : Value} {xs : List Value}, w2.ownsRow 0 T sz v n xs → T ≠ 60 → T ≠ 37 → (w3.setCell ⟨B, 0, none⟩ (.slice (some ⟨g3, 0, none⟩) (us.length + 1) c3)).ownsRow 0 T sz v n xs := fun {T sz n v xs} hr hT hT2 => owns_same hr (fun b hb' => by
    rw [Below.heap_setCell _ _ _ b (kind_box hr hb' h2.box hT), hc.block b (row_block hr b hb').2 (fun e' => kind_ne2 hr h2.hr hb' (hrow b e') hT2)])
  have hnew := keep (owns_below hr hb) (by decide) (by decide)
  have hf : Fam (w3.setCell ⟨B, 0, none⟩ (.slice (some ⟨g3, 0, none⟩) (us.length + 1) c3)) 34 2 us ls := ⟨h2.fu.len, fun k v m hv' hm => keep (h2.fu.row k v m hv' hm) (by decide) (by decide), h2.fu.nd⟩
  have hlen : (us ++ [u]).length = us.length + 1 := by simp
  have k3 : (w3.setCell ⟨B, 0, none⟩ (.slice (some ⟨g3, 0, none⟩) (us.length + 1) c3)).ownsRow 0 37 1 (.slice (some ⟨g3, 0, none⟩) (us.length + 1) c3) (us ++ [u]).length (us ++ [u]) := by
    rw [hlen]
    exact owns_same h3 (fun b hb' => Below.heap_setCell _ _ _ b (kind_box h3 hb' hB (by decide)))
  refine ⟨⟨same_blk hB rfl, k3, keep h2.nr (by decide) (by decide), hf.push hnew hne, ⟨h2.fm.len, fun k v m hv' hm => keep (h2.fm.row k v m hv' hm) (by decide) (by decide), h2.fm.nd⟩⟩, ?_⟩
  exact chg_more (chg_more (Chg.of_below hb _) hc (fun j hj => .inl (.inr (hrow j hj)))) (Chg.set _ _ _) (fun j hj => .inl (.inl hj))
theorem Bo.pushN {w w2 w3 : World} {B g3 c3 : Nat} {hv hn m1 m2 u : Value} {us ms : List Value} {ls : List (List (El 2))} {ns : List (List (El 4))} {l : List (El 4)} (h : Bo w B hv hn m1 m2 us ms ls ns) (hr : w.ownsRow 0 40 4 u l.length (fl l)) (hne : ∀ b, u.ownBlock = some b → ¬ FamB ms b) (hb : Below w.heap.size w w2)
    (h3 : w3.ownsRow 0 43 1 (.slice (some ⟨g3, 0, none⟩) (ms.length + 1) c3) (ms.length + 1) (ms ++ [u])) (hal : (hn = .slice (some ⟨g3, 0, none⟩) ms.length c3 ∧ w2.grownBy w3 (some g3)) ∨ (w2.heap.size ≤ g3 ∧ w2.grownBy w3 none)) :
    Bo (w3.setCell ⟨B, 2, none⟩ (.slice (some ⟨g3, 0, none⟩) (ms.length + 1) c3)) B hv (.slice (some ⟨g3, 0, none⟩) (ms.length + 1) c3) m1 m2 us (ms ++ [u]) ls (ns ++ [l]) ∧ Chg w (w3.setCell ⟨B, 2, none⟩ (.slice (some ⟨g3, 0, none⟩) (ms.length + 1) c3)) (fun b => b = B ∨ hn.ownBlock = some b) := by
  have h2 := h.on hb
  obtain ⟨row, hg, hrow⟩ : ∃ row, w2.grownBy w3 row ∧ ∀ b, row = some b → hn.ownBlock = some b := by
    rcases hal with ⟨e, hg3⟩ | ⟨_, hg3⟩
    · exact ⟨_, hg3, fun b hb => by cases hb; rw [e]; rfl⟩
    · exact ⟨_, hg3, fun b hb => by cases hb⟩
  have hc : Chg w2 w3 (fun b => row = some b) := Chg.grown hg
  have hB : w3.heap[B]? = some (.cells #[hv, m1, hn, m2] 60 (0, 0)) := by rw [hc.block B (lt_of_blk h2.box) (fun e' => kind_box h2.nr (hrow B e') h2.box (by decide) rfl)]; exact h2.box
  have keep : ∀ {T sz n : Nat} {v : Value} {xs : List Value}, w2.ownsRow 0 T sz v n xs → T ≠ 60 → T ≠ 43 → (w3.setCell ⟨B, 2, none⟩ (.slice (some ⟨g3, 0, none⟩) (ms.length + 1) c3)).ownsRow 0 T sz v n xs := fun {T sz n v xs} hr hT hT2 => owns_same hr (fun b hb' => by
    rw [Below.heap_setCell _ _ _ b (kind_box hr hb' h2.box hT), hc.block b (row_block hr b hb').2 (fun e' => kind_ne2 hr h2.nr hb' (hrow b e') hT2)])
  have hnew := keep (owns_below hr hb) (by decide) (by decide)
  have hf : Fam (w3.setCell ⟨B, 2, none⟩ (.slice (some ⟨g3, 0, none⟩) (ms.length + 1) c3)) 40 4 ms ns := ⟨h2.fm.len, fun k v m hv' hm => keep (h2.fm.row k v m hv' hm) (by decide) (by decide), h2.fm.nd⟩
  have hlen : (ms ++ [u]).length = ms.length + 1 := by simp
  have k3 : (w3.setCell ⟨B, 2, none⟩ (.slice (some ⟨g3, 0, none⟩) (ms.length + 1) c3)).ownsRow 0 43 1 (.slice (some ⟨g3, 0, none⟩) (ms.length + 1) c3) (ms ++ [u]).length (ms ++ [u]) := by
    rw [hlen]
    exact owns_same h3 (fun b hb' => Below.heap_setCell _ _ _ b (kind_box h3 hb' hB (by decide)))
  refine ⟨⟨same_blk hB rfl, keep h2.hr (by decide) (by decide), k3, ⟨h2.fu.len, fun k v m hv' hm => keep (h2.fu.row k v m hv' hm) (by decide) (by decide), h2.fu.nd⟩, hf.push hnew hne⟩, ?_⟩
  exact chg_more (chg_more (Chg.of_below hb _) hc (fun j hj => .inl (.inr (hrow j hj)))) (Chg.set _ _ _) (fun j hj => .inl (.inl hj))
end Go.Proofs.YtbblckcjedjbcaaGreatDoor.J
