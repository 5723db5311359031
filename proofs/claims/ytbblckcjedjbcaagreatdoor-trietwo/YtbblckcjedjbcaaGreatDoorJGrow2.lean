/-
  own.go: grow, the walk.
-/
import Derived.Test.YtbblckcjedjbcaaGreatDoorJGrow
namespace Go.Proofs.YtbblckcjedjbcaaGreatDoor.J
open Go.RowKit
set_option linter.unusedVariables false
set_option linter.unusedSimpArgs false

theorem chg_more {w w1 w2 : World} {S T : Nat → Prop} (h : Chg w w1 S) (k : Chg w1 w2 T) (hT : ∀ j, T j → S j ∨ w.heap.size ≤ j) : Chg w w2 S :=
  ⟨k.os.trans h.os, k.tape.trans h.tape, k.output.trans h.output, Nat.le_trans h.size k.size, fun j hj hn => by
    rw [k.block j (Nat.lt_of_lt_of_le hj h.size) (fun e => (hT j e).elim hn (fun hh => by omega))]
    exact h.block j hj hn⟩
theorem Bo.on {w w' : World} {B : Nat} {hv hn m1 m2 : Value} {us ms : List Value} {ls : List (List (El 2))} {ns : List (List (El 4))} (h : Bo w B hv hn m1 m2 us ms ls ns) (hb : Below w.heap.size w w') : Bo w' B hv hn m1 m2 us ms ls ns :=
  ⟨kept_block hb h.box, owns_below h.hr hb, owns_below h.nr hb, h.fu.keep (Kp.of_below hb _), h.fm.keep (Kp.of_below hb _)⟩
theorem Bo.turnV {w w' : World} {B : Nat} {hv hn m1 m2 : Value} {us ms : List Value} {ls : List (List (El 2))} {ns : List (List (El 4))} (h : Bo w B hv hn m1 m2 us ms ls ns) {k : Nat} {u : Value} {l : List (El 2)} (hu : us[k]? = some u) (hl : ls[k]? = some l) (hc : Chg w w' (fun b => u.ownBlock = some b)) (hr' : w'.ownsRow 0 34 2 u l.length (fl l)) : Bo w' B hv hn m1 m2 us ms ls ns := by
  have hr := h.fu.row k _ l hu hl
  have hset : ls.set k l = ls := by
    apply List.ext_getElem?
    intro j
    rw [List.getElem?_set]
    by_cases hj : k = j
    · subst hj; rw [if_pos rfl, if_pos (List.getElem?_eq_some_iff.1 hl).1, hl]
    · rw [if_neg hj]
  refine ⟨?_, owns_same h.hr (fun b hb => hc.block b (row_block h.hr b hb).2 (fun e' => kind_ne2 h.hr hr hb e' (by decide))), owns_same h.nr (fun b hb => hc.block b (row_block h.nr b hb).2 (fun e' => kind_ne2 h.nr hr hb e' (by decide))), ?_, h.fm.keep (Kp.of_chg hc (fun b hb hF e' => ?_))⟩
  · rw [hc.block B (lt_of_blk h.box) (fun e' => kind_box hr e' h.box (by decide) rfl)]
    exact h.box
  · have := h.fu.turn hu hc hr'
    rw [hset] at this
    exact this
  · obtain ⟨j, v, hv', hvb⟩ := hF
    obtain ⟨l2, _, hr2⟩ := h.fm.get hv'
    exact kind_ne2 hr2 hr hvb e' (by decide)
theorem Bo.turnN {w w' : World} {B : Nat} {hv hn m1 m2 : Value} {us ms : List Value} {ls : List (List (El 2))} {ns : List (List (El 4))} (h : Bo w B hv hn m1 m2 us ms ls ns) {k : Nat} {u : Value} {l : List (El 4)} (hu : ms[k]? = some u) (hl : ns[k]? = some l) (hc : Chg w w' (fun b => u.ownBlock = some b)) (hr' : w'.ownsRow 0 40 4 u l.length (fl l)) : Bo w' B hv hn m1 m2 us ms ls ns := by
  have hr := h.fm.row k _ l hu hl
  have hset : ns.set k l = ns := by
    apply List.ext_getElem?
    intro j
    rw [List.getElem?_set]
    by_cases hj : k = j
    · subst hj; rw [if_pos rfl, if_pos (List.getElem?_eq_some_iff.1 hl).1, hl]
    · rw [if_neg hj]
  refine ⟨?_, owns_same h.hr (fun b hb => hc.block b (row_block h.hr b hb).2 (fun e' => kind_ne2 h.hr hr hb e' (by decide))), owns_same h.nr (fun b hb => hc.block b (row_block h.nr b hb).2 (fun e' => kind_ne2 h.nr hr hb e' (by decide))), h.fu.keep (Kp.of_chg hc (fun b hb hF e' => ?_)), ?_⟩
  · rw [hc.block B (lt_of_blk h.box) (fun e' => kind_box hr e' h.box (by decide) rfl)]
    exact h.box
  · obtain ⟨j, v, hv', hvb⟩ := hF
    obtain ⟨l2, _, hr2⟩ := h.fu.get hv'
    exact kind_ne2 hr2 hr hvb e' (by decide)
  · have := h.fm.turn hu hc hr'
    rw [hset] at this
    exact this
/-- A head of another list has grown, in a block that is none of these, and it is laid into the book. -/
theorem Bo.more {w w2 w3 : World} {B o : Nat} {hv hn m1 m2 x m1' m2' : Value} {us ms : List Value} {ls : List (List (El 2))} {ns : List (List (El 4))} {row : Option Nat} (h : Bo w B hv hn m1 m2 us ms ls ns) (hb : Below w.heap.size w w2) (hg : w2.grownBy w3 row) (hrow : ∀ b, row = some b → b ≠ B ∧ hv.ownBlock ≠ some b ∧ hn.ownBlock ≠ some b ∧ ¬ FamB us b ∧ ¬ FamB ms b)
    (he : (#[hv, m1, hn, m2] : Array Value).setIfInBounds o x = #[hv, m1', hn, m2']) : Bo (w3.setCell ⟨B, o, none⟩ x) B hv hn m1' m2' us ms ls ns := by
  have h2 := h.on hb
  have s2 := hg.size
  have hc : Chg w2 w3 (fun b => row = some b) := Chg.grown hg
  have hB : w3.heap[B]? = some (.cells #[hv, m1, hn, m2] 60 (0, 0)) := by rw [hc.block B (lt_of_blk h2.box) (fun e' => (hrow B e').1 rfl)]; exact h2.box
  have keep : ∀ {T sz n : Nat} {v : Value} {xs : List Value}, w2.ownsRow 0 T sz v n xs → T ≠ 60 → (∀ b, v.ownBlock = some b → row ≠ some b) → (w3.setCell ⟨B, o, none⟩ x).ownsRow 0 T sz v n xs := fun {T sz n v xs} hr hT hne => owns_same hr (fun b hb' => by
    rw [Below.heap_setCell _ _ _ b (kind_box hr hb' h2.box hT), hc.block b (row_block hr b hb').2 (hne b hb')])
  refine ⟨same_blk hB he, keep h2.hr (by decide) (fun b hb' e' => (hrow b e').2.1 hb'), keep h2.nr (by decide) (fun b hb' e' => (hrow b e').2.2.1 hb'), ⟨h2.fu.len, fun k u l hu hl => keep (h2.fu.row k u l hu hl) (by decide) (fun b hb' e' => (hrow b e').2.2.2.1 ⟨k, u, hu, hb'⟩), h2.fu.nd⟩, ⟨h2.fm.len, fun k u l hu hl => keep (h2.fm.row k u l hu hl) (by decide) (fun b hb' e' => (hrow b e').2.2.2.2 ⟨k, u, hu, hb'⟩), h2.fm.nd⟩⟩
theorem Gro.on {T sz : Nat} {Wq wr w' : World} {u g : Value} {l k : List (El sz)} (h : Gro T sz Wq wr u l k g) (hb : Below wr.heap.size wr w') : Gro T sz Wq w' u l k g :=
  ⟨h.chg.trans (Chg.of_below hb _), owns_below h.row hb, owns_below h.old hb, h.alt⟩
/-- Lists of other kinds have changed. -/
theorem Rs.past {W1 w10 w2 w3 : World} {tH T sz tH' T' sz' B o n' n2 : Nat} {mk : Int → El sz} {gv gv' u g x : Value} {gs xs' xs2 : List Value} {ls : List (List (El sz))} {l k : List (El sz')} {row : Option Nat} {bc : Array Value} {bt : TypeId} (h : Rs W1 tH T sz mk gv gs ls) (hg : Gro T' sz' W1 w10 u l k g) (hur : W1.ownsRow 0 T' sz' u n2 xs2) (hw2 : Below w10.heap.size w10 w2) (hgr : w2.grownBy w3 row) (hgv : W1.ownsRow 0 tH' 1 gv' n' xs') (hrow : ∀ b, row = some b → gv'.ownBlock = some b ∨ W1.heap.size ≤ b) (hB : W1.heap[B]? = some (.cells bc bt (0, 0)))
    (h1 : T ≠ T') (h2 : T ≠ tH') (h3 : T ≠ bt) (h4 : tH ≠ T') (h5 : tH ≠ tH') (h6 : tH ≠ bt) : Rs (w3.setCell ⟨B, o, none⟩ x) tH T sz mk gv gs ls := by
  have s1 := hg.chg.size
  have s2 := hw2.size
  have keep : ∀ {K s n : Nat} {v : Value} {xs : List Value}, W1.ownsRow 0 K s v n xs → K ≠ T' → K ≠ tH' → K ≠ bt → (w3.setCell ⟨B, o, none⟩ x).ownsRow 0 K s v n xs := fun {K s n v xs} hv k1 k2 k3 => owns_same hv (fun b hb => by
    have hlt := (row_block hv b hb).2
    rw [Below.heap_setCell _ _ _ b (kind_box hv hb hB k3), hgr.block b (by omega) (fun e' => ?_), hw2.block b (by omega), hg.chg.block b hlt (fun e' => kind_ne2 hv hur hb e' k1)]
    rcases hrow b e'.symm with h9 | h9
    · exact kind_ne2 hv hgv hb h9 k2
    · omega)
  exact ⟨keep h.gr h4 h5 h6, fun j g l hg hl => keep (h.rd j g l hg hl) h1 h2 h3⟩
theorem Gk.new {w wr : World} {tH T sz : Nat} {mk : Int → El sz} {us : List Value} {hv gv : Value} {gs : List Value} {ls : List (List (El sz))} {q : Nat} (h : Gk w wr tH T sz mk us hv gv gs ls q) (hq : us.length = q) : ∀ b, RsB gv gs b → FamB us b ∨ w.heap.size ≤ b := by
  rintro b (hb | ⟨j, g, hg, hb⟩)
  · exact .inr (h.hd b hb)
  · have hj := (List.getElem?_eq_some_iff.1 hg).1
    rw [h.len, ← hq] at hj
    rcases h.at' j g _ hg (List.getElem?_eq_getElem hj) with e | ⟨b', e, hb'⟩
    · exact .inl ⟨j, _, List.getElem?_eq_getElem hj, by rw [← e]; exact hb⟩
    · rw [e] at hb
      cases hb
      exact .inr hb'
theorem rep_snoc {α : Type} (p : Nat) (e : α) : List.replicate p e ++ [e] = List.replicate (p + 1) e := by rw [List.replicate_succ']
theorem step_callx {P : Program} {ops : Array Oper} {o : Oper} {a : Act} {w : World} {K : Act → World → Prop} {Q : Exit → Act → World → Prop} {E : Prop} (hw : Region.wanted o (yielded ops a.tmps) = true) (f : FuncId) (xs : List Operand) (ts : Array TypeId)
    (ho : o.op = .call { callee := .value (.func f), args := xs.toArray, argTypes := ts }) (ef : ∀ args w, (callFunc f args).run P w = .ok (.enter f args) w) (us : List Value) (hx : xs.map a.eval = us) {R : Ending → World → Prop} (hc : Calls P f us.toArray w R)
    (h : ∀ e w', R e w' → ∃ r, e = .returned r ∧ K (a.put o.dst r) w') :
    if Region.wanted o (yielded ops a.tmps) = true then Oper.wp P o a w K Q else E := by
  rw [if_pos hw]
  have he : (execOp a.eval o).run P w = .ok (.enter f us.toArray) w := by
    have hf : a.eval (.func f) = .func (.func f) #[] #[] := rfl
    simp [execOp, ho, resolve, invoke, Deferred.ofValue, hx, hf, ef]
  unfold Oper.wp
  rw [he, Oper.upon_enter]
  refine hc.mono ?_
  intro e w' hR
  obtain ⟨r, rfl, hk⟩ := h e w' hR
  exact hk
theorem Tryz.info_vw : (Tryz.prog.info? 34).map (fun i => (i.zero, i.size, i.bytes)) = some (some (.agg #[.int .i64 0, .int .i64 0]), 2, 16) := by kernel_rfl
theorem Tryz.info_vws : (Tryz.prog.info? 37).map (fun i => (i.zero, i.size, i.bytes)) = some (some (.slice none 0 0), 1, 24) := by kernel_rfl
theorem Tryz.info_nos : (Tryz.prog.info? 43).map (fun i => (i.zero, i.size, i.bytes)) = some (some (.slice none 0 0), 1, 24) := by kernel_rfl
theorem Tryz.info_no : (Tryz.prog.info? 40).map (fun i => (i.zero, i.size, i.bytes)) = some (some (.agg (mkN 0).1.toArray), 4, 40) := by kernel_rfl
set_option maxHeartbeats 25600000 in
set_option maxRecDepth 100000 in
theorem grow_any (B : Nat) (hv hn : Value) (us ms : List Value) (ls : List (List (El 2))) (ns : List (List (El 4))) (w : World) (h : Bo w B hv hn (.slice none 0 0) (.slice none 0 0) us ms ls ns) (hu : us.length ≤ 1000) (hm : ms.length ≤ 1000) (hul : ∀ l ∈ ls, l.length ≤ 1000) (hml : ∀ l ∈ ns, l.length ≤ 1000) :
    Calls Tryz.prog 48 #[.pointer (some ⟨B, 0, none⟩)] w fun e w' => e = .returned (.tuple #[]) ∧ ∃ gv gn gs gm, Bo w' B hv hn gv gn us ms ls ns ∧ Rs w' 37 34 2 mkV gv gs ls ∧ gs.length = us.length ∧ Rs w' 43 40 4 mkN gn gm ns ∧ gm.length = ms.length ∧ Chg w w' (fun b => b = B ∨ FamB us b ∨ FamB ms b) ∧ (∀ b, RsB gv gs b → FamB us b ∨ w.heap.size ≤ b) ∧ (∀ b, RsB gn gm b → FamB ms b ∨ w.heap.size ≤ b) := by
  obtain ⟨n, hnn⟩ : ∃ n, us.length = n := ⟨_, rfl⟩
  obtain ⟨m, hmm⟩ : ∃ m, ms.length = m := ⟨_, rfl⟩
  obtain ⟨va, vc, rfl⟩ : ∃ va vc, hv = .slice va n vc := by
    rcases h.hr.2 with ⟨rfl, h0⟩ | ⟨g, cap, cur, rfl, _⟩
    · exact ⟨none, 0, by rw [← hnn, h0]⟩
    · exact ⟨_, _, by rw [hnn]⟩
  obtain ⟨na, nc, rfl⟩ : ∃ na nc, hn = .slice na m nc := by
    rcases h.nr.2 with ⟨rfl, h0⟩ | ⟨g, cap, cur, rfl, _⟩
    · exact ⟨none, 0, by rw [← hmm, h0]⟩
    · exact ⟨_, _, by rw [hmm]⟩
  rw [hnn] at hu ⊢
  rw [hmm] at hm ⊢
  have HU : Hid (us.length = n) := hnn
  have HM : Hid (ms.length = m) := hmm
  have HUL : Hid (∀ l ∈ ls, l.length ≤ 1000) := hul
  have HML : Hid (∀ l ∈ ns, l.length ≤ 1000) := hml
  have HLU : Hid (us.length = ls.length) := h.fu.len
  have HLM : Hid (ms.length = ns.length) := h.fm.len
  have HFU : Hid (∀ b, FamB us b → b < w.heap.size) := fun b hb => h.fu.lt hb
  have HFM : Hid (∀ b, FamB ms b → b < w.heap.size) := fun b hb => h.fm.lt hb
  have HHV : Hid (∀ b, (Value.slice va n vc).ownBlock = some b → b < w.heap.size) := fun b hb => (row_block h.hr b hb).2
  have HHN : Hid (∀ b, (Value.slice na m nc).ownBlock = some b → b < w.heap.size) := fun b hb => (row_block h.nr b hb).2
  have HBW : Hid (B < w.heap.size) := lt_of_blk h.box
  have H0 : Hid (Bo w B (.slice va n vc) (.slice na m nc) (.slice none 0 0) (.slice none 0 0) us ms ls ns) := h
  have HG0 : Hid (Gk w w 37 34 2 mkV us (.slice va n vc) (.slice none 0 0) [] ls 0) := ⟨⟨⟨rfl, .inl ⟨rfl, rfl⟩⟩, fun j g l hg => by simp at hg⟩, rfl, (fun b hb => by cases hb), fun j g u hg => by simp at hg⟩
  obtain ⟨i0, hi, hz0, hz1, hz2⟩ := info_parts Tryz.info_vw
  obtain ⟨i1, hi1, hy0, hy1, hy2⟩ := info_parts Tryz.info_vws
  obtain ⟨i2, hi2, hx0, hx1, hx2⟩ := info_parts Tryz.info_no
  obtain ⟨i3, hi3, hv0, hv1, hv2⟩ := info_parts Tryz.info_nos
  clear h hnn hmm hul hml
  go_enter Tryz.func48, Tryz.ntmps48
  go_wp2_with fail
  go_loopw [2] (fun k wr => ∃ (q : Nat) (gv : Value) (gs : List Value), k = .int .i64 q ∧ q ≤ n ∧ Hid (Bo wr B (.slice va n vc) (.slice na m nc) gv (.slice none 0 0) us ms ls ns) ∧ Hid (Gk w wr 37 34 2 mkV us (.slice va n vc) gv gs ls q) ∧ Hid (Chg w wr (fun b => b = B ∨ FamB us b ∨ FamB ms b))) (fun k _ => n - (intOf k).toNat)
  case atStart => exact ⟨0, _, [], rfl, Nat.zero_le _, H0, HG0, Chg.refl _ _⟩
  case round =>
    clear H0 HG0
    obtain ⟨q, gv, gs, rfl, hq, HB, HG, HC⟩ := hrel
    obtain ⟨W1, hW1⟩ : ∃ W1 : World, W1 = wr := ⟨_, rfl⟩
    subst hW1
    obtain ⟨b0, b1, b2, b3⟩ := cells_4 HB.out.box
    by_cases hlt : q < n
    · have hqi : (q : Int) < (n : Int) := by omega
      obtain ⟨u, hu⟩ : ∃ u, us[q]? = some u := ⟨us[q]'(by rw [HU.out]; exact hlt), List.getElem?_eq_getElem _⟩
      obtain ⟨l, hl, hr⟩ := HB.out.fu.get hu
      obtain ⟨hg, hcc, hhv, hcell⟩ := HB.out.cellV hu
      rw [HU.out] at hhv
      simp only [Value.slice.injEq, true_and] at hhv
      obtain ⟨hva, -⟩ := hhv
      have HVA : Hid (va = some ⟨hg, 0, none⟩) := hva
      rw [hva] at b0
      clear hva
      obtain ⟨z, hz⟩ : ∃ z, l.length = z := ⟨_, rfl⟩
      obtain ⟨ua, uc, rfl⟩ : ∃ ua uc, u = .slice ua z uc := by
        rcases hr.2 with ⟨rfl, h0⟩ | ⟨g, cap, cur, rfl, _⟩
        · exact ⟨none, 0, by rw [← hz, h0]⟩
        · exact ⟨_, _, by rw [hz]⟩
      have hz1000 : z ≤ 1000 := by rw [← hz]; exact HUL.out l (List.mem_of_getElem? hl)
      have HUQ : Hid (us[q]? = some (.slice ua z uc)) := hu
      have HLQ : Hid (ls[q]? = some l) := hl
      have HLZ : Hid (l.length = z) := hz
      have HUB : Hid (∀ b, (Value.slice ua z uc).ownBlock = some b → b < W1.heap.size) := fun b hb => HB.out.fu.lt ⟨q, _, hu, hb⟩
      obtain ⟨G, hGG⟩ : ∃ G, grB q = G := ⟨_, rfl⟩
      have hG96 : G ≤ 96 := by rw [← hGG]; exact grB_le q
      have HGG : Hid (grB q = G) := hGG
      have HGB : Hid (∀ w', Calls Tryz.prog 74 #[.int .i64 q] w' fun e w'' => e = .returned (.int .i64 G) ∧ w'' = w') := fun w' => by have := grownBy_any q w'; rw [hGG] at this; exact this
      have hG2 : 0 < G := by rw [← hGG]; unfold grB; split <;> omega
      have hn1 : IntKind.i64.wrap (-(q : Int)) = -(q : Int) := by rw [IntKind.wrap_i64]; omega
      have hn2 : IntKind.i64.wrap (-(q : Int) - 1) = -(q : Int) - 1 := by rw [IntKind.wrap_i64]; omega
      have hzG : IntKind.i64.wrap ((z : Int) + (G : Int)) = (z : Int) + (G : Int) := by rw [IntKind.wrap_i64]; omega
      have HGR : Hid (Gro 34 2 W1 W1 (.slice ua z uc) l [] (.slice ua z uc)) := Gro.start hr
      have HGV : Hid (Gk w W1 37 34 2 mkV us (.slice va n vc) gv gs ls q) := HG
      clear hu hl hr hz hGG HG
      go_wp2_with fail
      go_loopw [4, 5] (fun gval i wr => ∃ (p : Nat), i = .int .i64 ((z : Int) + (p : Int)) ∧ p ≤ G ∧ Hid (Gro 34 2 W1 wr (.slice ua z uc) l (List.replicate p (mkV (-(q : Int) - 1))) gval)) (fun _ i _ => z + G - (intOf i).toNat)
      case atStart => exact ⟨0, by simp, Nat.zero_le _, HGR⟩
      case round =>
        clear b0 b1 b2 b3 hcell HGR
        obtain ⟨p, rfl, hp, HR⟩ := hrel
        have HBr : Hid (Bo wr B (.slice va n vc) (.slice na m nc) gv (.slice none 0 0) us ms ls ns) := HB.out.turnV HUQ.out HLQ.out HR.out.chg HR.out.old
        obtain ⟨b0, b1, b2, b3⟩ := cells_4 HBr.out.box
        obtain ⟨hg', hcc', hhv, hcell⟩ := HBr.out.cellV HUQ.out
        rw [HU.out, HVA.out] at hhv
        simp only [Value.slice.injEq, true_and, Option.some.injEq, Addr.mk.injEq, and_true] at hhv
        obtain ⟨hgg, -⟩ := hhv
        rw [← hgg] at hcell
        rw [HVA.out] at b0
        clear hgg
        by_cases hltp : p < G
        · have hpi : (z : Int) + (p : Int) < (z : Int) + (G : Int) := by omega
          have hpw : IntKind.i64.wrap ((z : Int) + (p : Int) + 1) = (z : Int) + (p : Int) + 1 := by rw [IntKind.wrap_i64]; omega
          go_wp2_with fail
          obtain ⟨w9, hw9⟩ : ∃ w9, wr.drew = w9 := ⟨_, rfl⟩
          have HB9 : Hid (Below wr.heap.size wr w9) := by rw [← hw9]; exact below_drew (Below.refl _ _)
          refine wp_region_held_drew (S := (fun w' => w'.cell? ⟨B, 0, none⟩ = some (.slice (some ⟨hg, 0, none⟩) n vc) ∧ w'.cell? ⟨hg, q, none⟩ = some (.slice ua z uc))) (by kernel_rfl) ⟨b0, hcell⟩ (fun hHeld => ?_)
          rw [hw9] at hHeld ⊢
          clear hw9
          refine wpAnyH_take (i := 0) (v := ?_) rfl (by kernel_rfl) (by kernel_rfl) (by kernel_rfl) (fun _ _ _ h => h) ?_ hHeld ?_
          rotate_left
          · refine Or.inl ⟨by rfl, ?_⟩; intro w hSw; obtain ⟨hh0, hh1⟩ := hSw; go_simp <;> with_reducible rfl
          try simp only [List.getElem_toArray, List.getElem_cons_succ, List.getElem_cons_zero, Act.put, List.setIfInBounds_toArray, List.set_cons_zero, List.set_cons_succ]
          refine wpAnyH_take (i := 1) (v := ?_) rfl (by kernel_rfl) (by kernel_rfl) (by kernel_rfl) (fun _ _ _ h => h) ?_ hHeld ?_
          rotate_left
          · refine Or.inl ⟨by rfl, ?_⟩; intro w hSw; obtain ⟨hh0, hh1⟩ := hSw; go_simp <;> with_reducible rfl
          try simp only [List.getElem_toArray, List.getElem_cons_succ, List.getElem_cons_zero, Act.put, List.setIfInBounds_toArray, List.set_cons_zero, List.set_cons_succ]
          refine wpAnyH_take (i := 2) (v := ?_) rfl (by kernel_rfl) (by kernel_rfl) (by kernel_rfl) (fun _ _ _ h => h) ?_ hHeld ?_
          rotate_left
          · refine Or.inl ⟨by rfl, ?_⟩; intro w hSw; obtain ⟨hh0, hh1⟩ := hSw; go_simp <;> with_reducible rfl
          try simp only [List.getElem_toArray, List.getElem_cons_succ, List.getElem_cons_zero, Act.put, List.setIfInBounds_toArray, List.set_cons_zero, List.set_cons_succ]
          refine wpAnyH_take (i := 3) (v := ?_) rfl (by kernel_rfl) (by kernel_rfl) (by kernel_rfl) (fun _ _ _ h => h) ?_ hHeld ?_
          rotate_left
          · refine Or.inl ⟨by rfl, ?_⟩; intro w hSw; obtain ⟨hh0, hh1⟩ := hSw; go_simp <;> with_reducible rfl
          try simp only [List.getElem_toArray, List.getElem_cons_succ, List.getElem_cons_zero, Act.put, List.setIfInBounds_toArray, List.set_cons_zero, List.set_cons_succ]
          refine wpAnyH_take (i := 4) (v := ?_) rfl (by kernel_rfl) (by kernel_rfl) (by kernel_rfl) (fun _ _ _ h => h) ?_ hHeld ?_
          rotate_left
          · refine Or.inl ⟨by rfl, ?_⟩; intro w hSw; obtain ⟨hh0, hh1⟩ := hSw; go_simp <;> with_reducible rfl
          try simp only [List.getElem_toArray, List.getElem_cons_succ, List.getElem_cons_zero, Act.put, List.setIfInBounds_toArray, List.set_cons_zero, List.set_cons_succ]
          refine wpAnyH_take (i := 5) (v := ?_) rfl (by kernel_rfl) (by kernel_rfl) (by kernel_rfl) (fun _ _ _ h => h) ?_ hHeld ?_
          rotate_left
          · refine Or.inl ⟨by rfl, ?_⟩; intro w hSw; obtain ⟨hh0, hh1⟩ := hSw; go_simp <;> with_reducible rfl
          try simp only [List.getElem_toArray, List.getElem_cons_succ, List.getElem_cons_zero, Act.put, List.setIfInBounds_toArray, List.set_cons_zero, List.set_cons_succ]
          refine wpAnyH_take (i := 6) (v := ?_) rfl (by kernel_rfl) (by kernel_rfl) (by kernel_rfl) (fun _ _ _ h => h) ?_ hHeld ?_
          rotate_left
          · refine Or.inl ⟨by rfl, ?_⟩; intro w hSw; obtain ⟨hh0, hh1⟩ := hSw; go_simp <;> with_reducible rfl
          try simp only [List.getElem_toArray, List.getElem_cons_succ, List.getElem_cons_zero, Act.put, List.setIfInBounds_toArray, List.set_cons_zero, List.set_cons_succ]
          refine wpAnyH_take (i := 7) (v := ?_) rfl (by kernel_rfl) (by kernel_rfl) (by kernel_rfl) (fun _ _ _ h => h) ?_ hHeld ?_
          rotate_left
          · refine Or.inl ⟨by rfl, ?_⟩; intro w hSw; obtain ⟨hh0, hh1⟩ := hSw; go_simp <;> with_reducible rfl
          try simp only [List.getElem_toArray, List.getElem_cons_succ, List.getElem_cons_zero, Act.put, List.setIfInBounds_toArray, List.set_cons_zero, List.set_cons_succ]
          refine wpAnyH_take (i := 8) (v := ?_) rfl (by kernel_rfl) (by kernel_rfl) (by kernel_rfl) (fun _ _ _ h => h) ?_ hHeld ?_
          rotate_left
          · refine Or.inl ⟨by rfl, ?_⟩; intro w hSw; obtain ⟨hh0, hh1⟩ := hSw; go_simp <;> with_reducible rfl
          try simp only [List.getElem_toArray, List.getElem_cons_succ, List.getElem_cons_zero, Act.put, List.setIfInBounds_toArray, List.set_cons_zero, List.set_cons_succ]
          refine wpAnyH_take (i := 9) (v := ?_) rfl (by kernel_rfl) (by kernel_rfl) (by kernel_rfl) (fun _ _ _ h => h) ?_ hHeld ?_
          rotate_left
          · refine Or.inl ⟨by rfl, ?_⟩; intro w hSw; obtain ⟨hh0, hh1⟩ := hSw; go_simp <;> with_reducible rfl
          try simp only [List.getElem_toArray, List.getElem_cons_succ, List.getElem_cons_zero, Act.put, List.setIfInBounds_toArray, List.set_cons_zero, List.set_cons_succ]
          refine wpAnyH_ready (rs := [10]) (by kernel_rfl) (by simp) ?_
          refine AllReadyH.cons rfl (fun K hK => ?_) AllReadyH.nil
          refine step_callx (by rfl) 74 _ _ (by rfl) (fun _ _ => by rfl) [.int .i64 q] (by rfl) (HGB.out w9) ?_
          rintro e w10 ⟨rfl, hw10⟩
          subst hw10
          refine ⟨_, rfl, hK.out _ _ hHeld (fun hHeld => ?_)⟩
          clear hK K
          try simp only [List.getElem_toArray, List.getElem_cons_succ, List.getElem_cons_zero, Act.put, List.setIfInBounds_toArray, List.set_cons_zero, List.set_cons_succ]
          refine wpAnyH_take (i := 11) (v := ?_) rfl (by kernel_rfl) (by kernel_rfl) (by kernel_rfl) (fun _ _ _ h => h) ?_ hHeld ?_
          rotate_left
          · refine Or.inl ⟨by rfl, ?_⟩; intro w hSw; obtain ⟨hh0, hh1⟩ := hSw; go_simp <;> with_reducible rfl
          try simp only [List.getElem_toArray, List.getElem_cons_succ, List.getElem_cons_zero, Act.put, List.setIfInBounds_toArray, List.set_cons_zero, List.set_cons_succ]
          refine wpAnyH_take (i := 12) (v := ?_) rfl (by kernel_rfl) (by kernel_rfl) (by kernel_rfl) (fun _ _ _ h => h) ?_ hHeld ?_
          rotate_left
          · refine Or.inl ⟨by rfl, ?_⟩; intro w hSw; obtain ⟨hh0, hh1⟩ := hSw; go_simp <;> with_reducible rfl
          try simp only [List.getElem_toArray, List.getElem_cons_succ, List.getElem_cons_zero, Act.put, List.setIfInBounds_toArray, List.set_cons_zero, List.set_cons_succ]
          refine wpAnyH_done (by kernel_rfl) ?_ _
          have HRW : Hid ((w10.alloc (.cells #[.int .i64 0, .int .i64 (-(q : Int) - 1)] 34)).ownsRow 0 34 2 u4 (z + p) (fl l ++ fl (List.replicate p (mkV (-(q : Int) - 1))))) := by
            have h9 := owns_below (owns_below HR.out.row HB9.out) ((Below.refl _ _).alloc (Nat.le_refl _) (.cells #[.int .i64 0, .int .i64 (-(q : Int) - 1)] 34))
            rw [HLZ.out, List.length_replicate] at h9
            exact h9
          have HCL : Hid (∀ j v, (mkV (-(q : Int) - 1)).1[j]? = some v → (w10.alloc (.cells #[.int .i64 0, .int .i64 (-(q : Int) - 1)] 34)).cell? (Addr.add ⟨w10.heap.size, 0, none⟩ j) = some v) := fun j v hj => by
            rw [addr_add, Nat.zero_add, cell_blkD (heap_alloc_new _ _), ← Array.getElem?_toList]
            exact hj
          go_wp2_with (first
            | (refine wpList_append_any _ rfl _ _ 37 rfl 0 34 i0 (.agg #[.int .i64 0, .int .i64 0]) 2 16 Tryz.underlying37 hi hz0 hz1 hz2 rfl (by decide) u4 (z + p) (fl l ++ fl (List.replicate p (mkV (-(q : Int) - 1)))) rfl HRW.out ⟨w10.heap.size, 0, none⟩ 1 1 (mkV (-(q : Int) - 1)).1 rfl (by rw [(mkV (-(q : Int) - 1)).2.1, Nat.one_mul]) HCL.out (mkV (-(q : Int) - 1)).2.2 (by decide) (by unfold maxLen; omega) (by omega) (Nat.zero_le _) ?_
               intro g' cap w2 hown halt
               have hnx := HR.out.next (e := mkV (-(q : Int) - 1)) HUB.out (w1 := w10.alloc (.cells #[.int .i64 0, .int .i64 (-(q : Int) - 1)] 34)) (w2 := w2) (g' := g') (cap' := cap) (HB9.out.alloc HB9.out.size _) (by rw [HLZ.out, List.length_replicate]; exact hown) (by rw [HLZ.out, List.length_replicate]; exact halt)
               rw [rep_snoc, HLZ.out, List.length_replicate] at hnx
               have H2 : Hid _ := hnx
               clear hown halt hnx)
            | fail)
          exact ⟨⟨p + 1, by rw [show (z : Int) + ((p + 1 : Nat) : Int) = (z : Int) + (p : Int) + 1 by omega], by omega, H2⟩, by simp [intOf]; omega⟩
        · obtain rfl : p = G := by omega
          have hpi : ¬ (z : Int) + (p : Int) < (z : Int) + (p : Int) := by omega
          obtain ⟨gb, gc, rfl⟩ : ∃ gb gc, u4 = .slice (some ⟨gb, 0, none⟩) (z + p) gc := by
            have h9 := HR.out.row
            rw [HLZ.out, List.length_replicate] at h9
            obtain ⟨gb, gc, e, _⟩ := h9.form (by omega)
            exact ⟨gb, gc, e⟩
          go_wp2_with fail
          obtain ⟨w9, hw9⟩ : ∃ w9, wr.drew = w9 := ⟨_, rfl⟩
          have HB9 : Hid (Below wr.heap.size wr w9) := by rw [← hw9]; exact below_drew (Below.refl _ _)
          refine wp_region_held_drew (S := (fun w' => w'.cell? ⟨B, 0, none⟩ = some (.slice (some ⟨hg, 0, none⟩) n vc) ∧ w'.cell? ⟨hg, q, none⟩ = some (.slice ua z uc))) (by kernel_rfl) ⟨b0, hcell⟩ (fun hHeld => ?_)
          rw [hw9] at hHeld ⊢
          clear hw9
          refine wpAnyH_take (i := 0) (v := ?_) rfl (by kernel_rfl) (by kernel_rfl) (by kernel_rfl) (fun _ _ _ h => h) ?_ hHeld ?_
          rotate_left
          · refine Or.inl ⟨by rfl, ?_⟩; intro w hSw; obtain ⟨hh0, hh1⟩ := hSw; go_simp <;> with_reducible rfl
          try simp only [List.getElem_toArray, List.getElem_cons_succ, List.getElem_cons_zero, Act.put, List.setIfInBounds_toArray, List.set_cons_zero, List.set_cons_succ]
          refine wpAnyH_take (i := 1) (v := ?_) rfl (by kernel_rfl) (by kernel_rfl) (by kernel_rfl) (fun _ _ _ h => h) ?_ hHeld ?_
          rotate_left
          · refine Or.inl ⟨by rfl, ?_⟩; intro w hSw; obtain ⟨hh0, hh1⟩ := hSw; go_simp <;> with_reducible rfl
          try simp only [List.getElem_toArray, List.getElem_cons_succ, List.getElem_cons_zero, Act.put, List.setIfInBounds_toArray, List.set_cons_zero, List.set_cons_succ]
          refine wpAnyH_take (i := 2) (v := ?_) rfl (by kernel_rfl) (by kernel_rfl) (by kernel_rfl) (fun _ _ _ h => h) ?_ hHeld ?_
          rotate_left
          · refine Or.inl ⟨by rfl, ?_⟩; intro w hSw; obtain ⟨hh0, hh1⟩ := hSw; go_simp <;> with_reducible rfl
          try simp only [List.getElem_toArray, List.getElem_cons_succ, List.getElem_cons_zero, Act.put, List.setIfInBounds_toArray, List.set_cons_zero, List.set_cons_succ]
          refine wpAnyH_take (i := 3) (v := ?_) rfl (by kernel_rfl) (by kernel_rfl) (by kernel_rfl) (fun _ _ _ h => h) ?_ hHeld ?_
          rotate_left
          · refine Or.inl ⟨by rfl, ?_⟩; intro w hSw; obtain ⟨hh0, hh1⟩ := hSw; go_simp <;> with_reducible rfl
          try simp only [List.getElem_toArray, List.getElem_cons_succ, List.getElem_cons_zero, Act.put, List.setIfInBounds_toArray, List.set_cons_zero, List.set_cons_succ]
          refine wpAnyH_take (i := 4) (v := ?_) rfl (by kernel_rfl) (by kernel_rfl) (by kernel_rfl) (fun _ _ _ h => h) ?_ hHeld ?_
          rotate_left
          · refine Or.inl ⟨by rfl, ?_⟩; intro w hSw; obtain ⟨hh0, hh1⟩ := hSw; go_simp <;> with_reducible rfl
          try simp only [List.getElem_toArray, List.getElem_cons_succ, List.getElem_cons_zero, Act.put, List.setIfInBounds_toArray, List.set_cons_zero, List.set_cons_succ]
          refine wpAnyH_take (i := 5) (v := ?_) rfl (by kernel_rfl) (by kernel_rfl) (by kernel_rfl) (fun _ _ _ h => h) ?_ hHeld ?_
          rotate_left
          · refine Or.inl ⟨by rfl, ?_⟩; intro w hSw; obtain ⟨hh0, hh1⟩ := hSw; go_simp <;> with_reducible rfl
          try simp only [List.getElem_toArray, List.getElem_cons_succ, List.getElem_cons_zero, Act.put, List.setIfInBounds_toArray, List.set_cons_zero, List.set_cons_succ]
          refine wpAnyH_take (i := 6) (v := ?_) rfl (by kernel_rfl) (by kernel_rfl) (by kernel_rfl) (fun _ _ _ h => h) ?_ hHeld ?_
          rotate_left
          · refine Or.inl ⟨by rfl, ?_⟩; intro w hSw; obtain ⟨hh0, hh1⟩ := hSw; go_simp <;> with_reducible rfl
          try simp only [List.getElem_toArray, List.getElem_cons_succ, List.getElem_cons_zero, Act.put, List.setIfInBounds_toArray, List.set_cons_zero, List.set_cons_succ]
          refine wpAnyH_take (i := 7) (v := ?_) rfl (by kernel_rfl) (by kernel_rfl) (by kernel_rfl) (fun _ _ _ h => h) ?_ hHeld ?_
          rotate_left
          · refine Or.inl ⟨by rfl, ?_⟩; intro w hSw; obtain ⟨hh0, hh1⟩ := hSw; go_simp <;> with_reducible rfl
          try simp only [List.getElem_toArray, List.getElem_cons_succ, List.getElem_cons_zero, Act.put, List.setIfInBounds_toArray, List.set_cons_zero, List.set_cons_succ]
          refine wpAnyH_take (i := 8) (v := ?_) rfl (by kernel_rfl) (by kernel_rfl) (by kernel_rfl) (fun _ _ _ h => h) ?_ hHeld ?_
          rotate_left
          · refine Or.inl ⟨by rfl, ?_⟩; intro w hSw; obtain ⟨hh0, hh1⟩ := hSw; go_simp <;> with_reducible rfl
          try simp only [List.getElem_toArray, List.getElem_cons_succ, List.getElem_cons_zero, Act.put, List.setIfInBounds_toArray, List.set_cons_zero, List.set_cons_succ]
          refine wpAnyH_take (i := 9) (v := ?_) rfl (by kernel_rfl) (by kernel_rfl) (by kernel_rfl) (fun _ _ _ h => h) ?_ hHeld ?_
          rotate_left
          · refine Or.inl ⟨by rfl, ?_⟩; intro w hSw; obtain ⟨hh0, hh1⟩ := hSw; go_simp <;> with_reducible rfl
          try simp only [List.getElem_toArray, List.getElem_cons_succ, List.getElem_cons_zero, Act.put, List.setIfInBounds_toArray, List.set_cons_zero, List.set_cons_succ]
          refine wpAnyH_ready (rs := [10]) (by kernel_rfl) (by simp) ?_
          refine AllReadyH.cons rfl (fun K hK => ?_) AllReadyH.nil
          refine step_callx (by rfl) 74 _ _ (by rfl) (fun _ _ => by rfl) [.int .i64 q] (by rfl) (HGB.out w9) ?_
          rintro e w10 ⟨rfl, hw10⟩
          subst hw10
          refine ⟨_, rfl, hK.out _ _ hHeld (fun hHeld => ?_)⟩
          clear hK K
          try simp only [List.getElem_toArray, List.getElem_cons_succ, List.getElem_cons_zero, Act.put, List.setIfInBounds_toArray, List.set_cons_zero, List.set_cons_succ]
          refine wpAnyH_take (i := 11) (v := ?_) rfl (by kernel_rfl) (by kernel_rfl) (by kernel_rfl) (fun _ _ _ h => h) ?_ hHeld ?_
          rotate_left
          · refine Or.inl ⟨by rfl, ?_⟩; intro w hSw; obtain ⟨hh0, hh1⟩ := hSw; go_simp <;> with_reducible rfl
          try simp only [List.getElem_toArray, List.getElem_cons_succ, List.getElem_cons_zero, Act.put, List.setIfInBounds_toArray, List.set_cons_zero, List.set_cons_succ]
          refine wpAnyH_take (i := 12) (v := ?_) rfl (by kernel_rfl) (by kernel_rfl) (by kernel_rfl) (fun _ _ _ h => h) ?_ hHeld ?_
          rotate_left
          · refine Or.inl ⟨by rfl, ?_⟩; intro w hSw; obtain ⟨hh0, hh1⟩ := hSw; go_simp <;> with_reducible rfl
          try simp only [List.getElem_toArray, List.getElem_cons_succ, List.getElem_cons_zero, Act.put, List.setIfInBounds_toArray, List.set_cons_zero, List.set_cons_succ]
          refine wpAnyH_done (by kernel_rfl) ?_ _
          have HR9 : Hid (Gro 34 2 W1 w10 (.slice ua z uc) l (bhd mkV q) (.slice (some ⟨gb, 0, none⟩) (z + p) gc)) := by
            have h9 := HR.out.on HB9.out
            unfold bhd
            rw [HGG.out]
            exact h9
          have HB9b : Hid (Bo w10 B (.slice va n vc) (.slice na m nc) gv (.slice none 0 0) us ms ls ns) := HB.out.turnV HUQ.out HLQ.out HR9.out.chg HR9.out.old
          obtain ⟨b0, b1, b2, b3⟩ := cells_4 HB9b.out.box
          have HQ : Hid (gs.length = q) := HGV.out.len
          have hq1000 : gs.length ≤ 1000 := by rw [HQ.out]; omega
          have HGH : Hid ((w10.alloc (.cells #[.slice (some ⟨gb, 0, none⟩) (z + p) gc] 37)).ownsRow 0 37 1 gv gs.length gs) := by
            refine owns_below ?_ ((Below.refl _ _).alloc (Nat.le_refl _) _)
            refine owns_same HGV.out.rs.gr (fun b hb => HR9.out.chg.block b (row_block HGV.out.rs.gr b hb).2 (fun e' => ?_))
            have h1 := HGV.out.hd b hb
            have h2 := HFU.out b ⟨q, _, HUQ.out, e'⟩
            omega
          go_wp2_with (first
            | (refine wpList_append_any _ rfl _ _ 57 rfl 0 37 i1 (.slice none 0 0) 1 24 Tryz.underlying57 hi1 hy0 hy1 hy2 rfl (by decide) gv gs.length gs rfl HGH.out ⟨w10.heap.size, 0, none⟩ 1 1 [.slice (some ⟨gb, 0, none⟩) (z + p) gc] rfl rfl (fun j v hj => by rw [addr_add, Nat.zero_add, cell_blkD (heap_alloc_new _ _)]; exact (by simpa using hj)) (by simp [Value.oneCell']) (by decide) (by unfold maxLen; omega) (by omega) (Nat.zero_le _) ?_
               intro g3 c3 w3 h3 hal
               have HAL : Hid _ := And.intro h3 hal
               have hB3 : w3.heap[B]? = some (.cells #[.slice va n vc, gv, .slice na m nc, .slice none 0 0] 60 (0, 0)) := by
                 have h9 := new_old HB9b.out.box (.cells #[.slice (some ⟨gb, 0, none⟩) (z + p) gc] 37)
                 rcases hal with ⟨e, hg3⟩ | ⟨_, hg3⟩
                 · rw [hg3.block B (lt_of_blk h9) (fun e' => by
                     cases e'
                     have h1 := HGV.out.hd B (by rw [e]; rfl)
                     have h2 := HBW.out
                     omega)]
                   exact h9
                 · rw [hg3.block B (lt_of_blk h9) (fun e' => by cases e')]
                   exact h9
               obtain ⟨c0, c1, c2, c3'⟩ := cells_4 hB3
               have fb : ∀ o, w3.frozen? ⟨B, o, none⟩ = false := free_of hB3
               clear h3 hal hB3)
            | fail)
          obtain ⟨h3, hal⟩ := HAL.out
          obtain ⟨row, hgr, hrow⟩ : ∃ row, (w10.alloc (.cells #[.slice (some ⟨gb, 0, none⟩) (z + p) gc] 37)).grownBy w3 row ∧ ∀ b, row = some b → gv.ownBlock = some b := by
            rcases hal with ⟨e, hg3⟩ | ⟨_, hg3⟩
            · exact ⟨_, hg3, fun b hb => by cases hb; rw [e]; rfl⟩
            · exact ⟨_, hg3, fun b hb => by cases hb⟩
          have hbe : Below w10.heap.size w10 (w10.alloc (.cells #[.slice (some ⟨gb, 0, none⟩) (z + p) gc] 37)) := (Below.refl _ _).alloc (Nat.le_refl _) _
          refine ⟨⟨q + 1, _, _, by rw [show ((q + 1 : Nat) : Int) = (q : Int) + 1 by omega], by omega, HB9b.out.more hbe hgr (fun b hb => ?_) rfl, HGV.out.next (by decide) HB.out.fu HFU.out HC.out.size HLU.out HUQ.out HLQ.out HR9.out hbe h3 hal HB.out.box (by decide) (by decide) HBW.out _, ?_⟩, by simp [intOf]; omega⟩
          · have h1 := HGV.out.hd b (hrow b hb)
            exact ⟨by have := HBW.out; omega, fun e => by have := HHV.out b e; omega, fun e => by have := HHN.out b e; omega, fun e => by have := HFU.out b e; omega, fun e => by have := HFM.out b e; omega⟩
          · refine chg_more (chg_more (chg_more (chg_more HC.out HR9.out.chg (fun j hj => .inl (.inr (.inl ⟨q, _, HUQ.out, hj⟩)))) (Chg.of_below hbe (fun _ => False)) (fun j hj => hj.elim)) (Chg.grown hgr) (fun j hj => .inr (HGV.out.hd j (hrow j hj)))) (Chg.set _ _ _) (fun j hj => .inl (.inl hj))
    · obtain rfl : n = q := by omega
      have hqi : ¬ (n : Int) < (n : Int) := by omega
      obtain ⟨GV, hGV⟩ : ∃ GV, GV = gv := ⟨_, rfl⟩
      obtain ⟨GS, hGS⟩ : ∃ GS, GS = gs := ⟨_, rfl⟩
      subst hGV hGS
      have HB1 : Hid (Bo W1 B (.slice va n vc) (.slice na m nc) GV (.slice none 0 0) us ms ls ns) := HB
      have HRS1 : Hid (Rs W1 37 34 2 mkV GV GS ls) := HG.out.rs
      have HGL : Hid (GS.length = n) := HG.out.len
      have HNV : Hid (∀ b, RsB GV GS b → FamB us b ∨ w.heap.size ≤ b) := HG.out.new HU.out
      have HC1 : Hid (Chg w W1 (fun b => b = B ∨ FamB us b ∨ FamB ms b)) := HC
      have HG1 : Hid (Gk w W1 43 40 4 mkN ms (.slice na m nc) (.slice none 0 0) [] ns 0) := ⟨⟨⟨rfl, .inl ⟨rfl, rfl⟩⟩, fun j g l hg => by simp at hg⟩, rfl, (fun b hb => by cases hb), fun j g u hg => by simp at hg⟩
      clear HB HG HC
      go_wp2_with fail
      go_loopw [6] (fun k wr => ∃ (q : Nat) (gv : Value) (gs : List Value), k = .int .i64 q ∧ q ≤ m ∧ Hid (Bo wr B (.slice va n vc) (.slice na m nc) GV gv us ms ls ns) ∧ Hid (Gk w wr 43 40 4 mkN ms (.slice na m nc) gv gs ns q) ∧ Hid (Rs wr 37 34 2 mkV GV GS ls) ∧ Hid (Chg w wr (fun b => b = B ∨ FamB us b ∨ FamB ms b))) (fun k _ => m - (intOf k).toNat)
      case atStart => exact ⟨0, _, [], rfl, Nat.zero_le _, HB1, HG1, HRS1, HC1⟩
      case round =>
        clear HB1 HG1 HRS1 HC1
        obtain ⟨q, gv, gs, rfl, hq, HB, HG, HRS, HC⟩ := hrel
        obtain ⟨W1, hW1⟩ : ∃ W1 : World, W1 = wr := ⟨_, rfl⟩
        subst hW1
        obtain ⟨b0, b1, b2, b3⟩ := cells_4 HB.out.box
        by_cases hlt : q < m
        · have hqi : (q : Int) < (m : Int) := by omega
          obtain ⟨u, hu⟩ : ∃ u, ms[q]? = some u := ⟨ms[q]'(by rw [HM.out]; exact hlt), List.getElem?_eq_getElem _⟩
          obtain ⟨l, hl, hr⟩ := HB.out.fm.get hu
          obtain ⟨hg, hcc, hhv, hcell⟩ := HB.out.cellN hu
          rw [HM.out] at hhv
          simp only [Value.slice.injEq, true_and] at hhv
          obtain ⟨hva, -⟩ := hhv
          have HVA : Hid (na = some ⟨hg, 0, none⟩) := hva
          rw [hva] at b2
          clear hva
          obtain ⟨z, hz⟩ : ∃ z, l.length = z := ⟨_, rfl⟩
          obtain ⟨ua, uc, rfl⟩ : ∃ ua uc, u = .slice ua z uc := by
            rcases hr.2 with ⟨rfl, h0⟩ | ⟨g, cap, cur, rfl, _⟩
            · exact ⟨none, 0, by rw [← hz, h0]⟩
            · exact ⟨_, _, by rw [hz]⟩
          have hz1000 : z ≤ 1000 := by rw [← hz]; exact HML.out l (List.mem_of_getElem? hl)
          have HUQ : Hid (ms[q]? = some (.slice ua z uc)) := hu
          have HLQ : Hid (ns[q]? = some l) := hl
          have HLZ : Hid (l.length = z) := hz
          have HUB : Hid (∀ b, (Value.slice ua z uc).ownBlock = some b → b < W1.heap.size) := fun b hb => HB.out.fm.lt ⟨q, _, hu, hb⟩
          obtain ⟨G, hGG⟩ : ∃ G, grB q = G := ⟨_, rfl⟩
          have hG96 : G ≤ 96 := by rw [← hGG]; exact grB_le q
          have HGG : Hid (grB q = G) := hGG
          have HGB : Hid (∀ w', Calls Tryz.prog 74 #[.int .i64 q] w' fun e w'' => e = .returned (.int .i64 G) ∧ w'' = w') := fun w' => by have := grownBy_any q w'; rw [hGG] at this; exact this
          have hG2 : 0 < G := by rw [← hGG]; unfold grB; split <;> omega
          have hn1 : IntKind.i64.wrap (-(q : Int)) = -(q : Int) := by rw [IntKind.wrap_i64]; omega
          have hn2 : IntKind.i64.wrap (-(q : Int) - 1) = -(q : Int) - 1 := by rw [IntKind.wrap_i64]; omega
          have hzG : IntKind.i64.wrap ((z : Int) + (G : Int)) = (z : Int) + (G : Int) := by rw [IntKind.wrap_i64]; omega
          have HGR : Hid (Gro 40 4 W1 W1 (.slice ua z uc) l [] (.slice ua z uc)) := Gro.start hr
          have HGV : Hid (Gk w W1 43 40 4 mkN ms (.slice na m nc) gv gs ns q) := HG
          clear hu hl hr hz hGG HG
          go_wp2_with fail
          go_loopw [8, 9] (fun gval i wr => ∃ (p : Nat), i = .int .i64 ((z : Int) + (p : Int)) ∧ p ≤ G ∧ Hid (Gro 40 4 W1 wr (.slice ua z uc) l (List.replicate p (mkN (-(q : Int) - 1))) gval)) (fun _ i _ => z + G - (intOf i).toNat)
          case atStart => exact ⟨0, by simp, Nat.zero_le _, HGR⟩
          case round =>
            clear b0 b1 b2 b3 hcell HGR
            obtain ⟨p, rfl, hp, HR⟩ := hrel
            have HBr : Hid (Bo wr B (.slice va n vc) (.slice na m nc) GV gv us ms ls ns) := HB.out.turnN HUQ.out HLQ.out HR.out.chg HR.out.old
            obtain ⟨b0, b1, b2, b3⟩ := cells_4 HBr.out.box
            obtain ⟨hg', hcc', hhv, hcell⟩ := HBr.out.cellN HUQ.out
            rw [HM.out, HVA.out] at hhv
            simp only [Value.slice.injEq, true_and, Option.some.injEq, Addr.mk.injEq, and_true] at hhv
            obtain ⟨hgg, -⟩ := hhv
            rw [← hgg] at hcell
            rw [HVA.out] at b2
            clear hgg
            by_cases hltp : p < G
            · have hpi : (z : Int) + (p : Int) < (z : Int) + (G : Int) := by omega
              have hpw : IntKind.i64.wrap ((z : Int) + (p : Int) + 1) = (z : Int) + (p : Int) + 1 := by rw [IntKind.wrap_i64]; omega
              go_wp2_with fail
              obtain ⟨w9, hw9⟩ : ∃ w9, wr.drew = w9 := ⟨_, rfl⟩
              have HB9 : Hid (Below wr.heap.size wr w9) := by rw [← hw9]; exact below_drew (Below.refl _ _)
              refine wp_region_held_drew (S := (fun w' => w'.cell? ⟨B, 2, none⟩ = some (.slice (some ⟨hg, 0, none⟩) m nc) ∧ w'.cell? ⟨hg, q, none⟩ = some (.slice ua z uc))) (by kernel_rfl) ⟨b2, hcell⟩ (fun hHeld => ?_)
              rw [hw9] at hHeld ⊢
              clear hw9
              refine wpAnyH_take (i := 0) (v := ?_) rfl (by kernel_rfl) (by kernel_rfl) (by kernel_rfl) (fun _ _ _ h => h) ?_ hHeld ?_
              rotate_left
              · refine Or.inl ⟨by rfl, ?_⟩; intro w hSw; obtain ⟨hh0, hh1⟩ := hSw; go_simp <;> with_reducible rfl
              try simp only [List.getElem_toArray, List.getElem_cons_succ, List.getElem_cons_zero, Act.put, List.setIfInBounds_toArray, List.set_cons_zero, List.set_cons_succ]
              refine wpAnyH_take (i := 1) (v := ?_) rfl (by kernel_rfl) (by kernel_rfl) (by kernel_rfl) (fun _ _ _ h => h) ?_ hHeld ?_
              rotate_left
              · refine Or.inl ⟨by rfl, ?_⟩; intro w hSw; obtain ⟨hh0, hh1⟩ := hSw; go_simp <;> with_reducible rfl
              try simp only [List.getElem_toArray, List.getElem_cons_succ, List.getElem_cons_zero, Act.put, List.setIfInBounds_toArray, List.set_cons_zero, List.set_cons_succ]
              refine wpAnyH_take (i := 2) (v := ?_) rfl (by kernel_rfl) (by kernel_rfl) (by kernel_rfl) (fun _ _ _ h => h) ?_ hHeld ?_
              rotate_left
              · refine Or.inl ⟨by rfl, ?_⟩; intro w hSw; obtain ⟨hh0, hh1⟩ := hSw; go_simp <;> with_reducible rfl
              try simp only [List.getElem_toArray, List.getElem_cons_succ, List.getElem_cons_zero, Act.put, List.setIfInBounds_toArray, List.set_cons_zero, List.set_cons_succ]
              refine wpAnyH_take (i := 3) (v := ?_) rfl (by kernel_rfl) (by kernel_rfl) (by kernel_rfl) (fun _ _ _ h => h) ?_ hHeld ?_
              rotate_left
              · refine Or.inl ⟨by rfl, ?_⟩; intro w hSw; obtain ⟨hh0, hh1⟩ := hSw; go_simp <;> with_reducible rfl
              try simp only [List.getElem_toArray, List.getElem_cons_succ, List.getElem_cons_zero, Act.put, List.setIfInBounds_toArray, List.set_cons_zero, List.set_cons_succ]
              refine wpAnyH_take (i := 4) (v := ?_) rfl (by kernel_rfl) (by kernel_rfl) (by kernel_rfl) (fun _ _ _ h => h) ?_ hHeld ?_
              rotate_left
              · refine Or.inl ⟨by rfl, ?_⟩; intro w hSw; obtain ⟨hh0, hh1⟩ := hSw; go_simp <;> with_reducible rfl
              try simp only [List.getElem_toArray, List.getElem_cons_succ, List.getElem_cons_zero, Act.put, List.setIfInBounds_toArray, List.set_cons_zero, List.set_cons_succ]
              refine wpAnyH_take (i := 5) (v := ?_) rfl (by kernel_rfl) (by kernel_rfl) (by kernel_rfl) (fun _ _ _ h => h) ?_ hHeld ?_
              rotate_left
              · refine Or.inl ⟨by rfl, ?_⟩; intro w hSw; obtain ⟨hh0, hh1⟩ := hSw; go_simp <;> with_reducible rfl
              try simp only [List.getElem_toArray, List.getElem_cons_succ, List.getElem_cons_zero, Act.put, List.setIfInBounds_toArray, List.set_cons_zero, List.set_cons_succ]
              refine wpAnyH_take (i := 6) (v := ?_) rfl (by kernel_rfl) (by kernel_rfl) (by kernel_rfl) (fun _ _ _ h => h) ?_ hHeld ?_
              rotate_left
              · refine Or.inl ⟨by rfl, ?_⟩; intro w hSw; obtain ⟨hh0, hh1⟩ := hSw; go_simp <;> with_reducible rfl
              try simp only [List.getElem_toArray, List.getElem_cons_succ, List.getElem_cons_zero, Act.put, List.setIfInBounds_toArray, List.set_cons_zero, List.set_cons_succ]
              refine wpAnyH_take (i := 7) (v := ?_) rfl (by kernel_rfl) (by kernel_rfl) (by kernel_rfl) (fun _ _ _ h => h) ?_ hHeld ?_
              rotate_left
              · refine Or.inl ⟨by rfl, ?_⟩; intro w hSw; obtain ⟨hh0, hh1⟩ := hSw; go_simp <;> with_reducible rfl
              try simp only [List.getElem_toArray, List.getElem_cons_succ, List.getElem_cons_zero, Act.put, List.setIfInBounds_toArray, List.set_cons_zero, List.set_cons_succ]
              refine wpAnyH_take (i := 8) (v := ?_) rfl (by kernel_rfl) (by kernel_rfl) (by kernel_rfl) (fun _ _ _ h => h) ?_ hHeld ?_
              rotate_left
              · refine Or.inl ⟨by rfl, ?_⟩; intro w hSw; obtain ⟨hh0, hh1⟩ := hSw; go_simp <;> with_reducible rfl
              try simp only [List.getElem_toArray, List.getElem_cons_succ, List.getElem_cons_zero, Act.put, List.setIfInBounds_toArray, List.set_cons_zero, List.set_cons_succ]
              refine wpAnyH_take (i := 9) (v := ?_) rfl (by kernel_rfl) (by kernel_rfl) (by kernel_rfl) (fun _ _ _ h => h) ?_ hHeld ?_
              rotate_left
              · refine Or.inl ⟨by rfl, ?_⟩; intro w hSw; obtain ⟨hh0, hh1⟩ := hSw; go_simp <;> with_reducible rfl
              try simp only [List.getElem_toArray, List.getElem_cons_succ, List.getElem_cons_zero, Act.put, List.setIfInBounds_toArray, List.set_cons_zero, List.set_cons_succ]
              refine wpAnyH_ready (rs := [10]) (by kernel_rfl) (by simp) ?_
              refine AllReadyH.cons rfl (fun K hK => ?_) AllReadyH.nil
              refine step_callx (by rfl) 74 _ _ (by rfl) (fun _ _ => by rfl) [.int .i64 q] (by rfl) (HGB.out w9) ?_
              rintro e w10 ⟨rfl, hw10⟩
              subst hw10
              refine ⟨_, rfl, hK.out _ _ hHeld (fun hHeld => ?_)⟩
              clear hK K
              try simp only [List.getElem_toArray, List.getElem_cons_succ, List.getElem_cons_zero, Act.put, List.setIfInBounds_toArray, List.set_cons_zero, List.set_cons_succ]
              refine wpAnyH_take (i := 11) (v := ?_) rfl (by kernel_rfl) (by kernel_rfl) (by kernel_rfl) (fun _ _ _ h => h) ?_ hHeld ?_
              rotate_left
              · refine Or.inl ⟨by rfl, ?_⟩; intro w hSw; obtain ⟨hh0, hh1⟩ := hSw; go_simp <;> with_reducible rfl
              try simp only [List.getElem_toArray, List.getElem_cons_succ, List.getElem_cons_zero, Act.put, List.setIfInBounds_toArray, List.set_cons_zero, List.set_cons_succ]
              refine wpAnyH_take (i := 12) (v := ?_) rfl (by kernel_rfl) (by kernel_rfl) (by kernel_rfl) (fun _ _ _ h => h) ?_ hHeld ?_
              rotate_left
              · refine Or.inl ⟨by rfl, ?_⟩; intro w hSw; obtain ⟨hh0, hh1⟩ := hSw; go_simp <;> with_reducible rfl
              try simp only [List.getElem_toArray, List.getElem_cons_succ, List.getElem_cons_zero, Act.put, List.setIfInBounds_toArray, List.set_cons_zero, List.set_cons_succ]
              refine wpAnyH_done (by kernel_rfl) ?_ _
              have HRW : Hid ((w10.alloc (.cells #[.int .i64 (-(q : Int) - 1), .string ⟨#[]⟩, .int .i64 0, .int .i64 0] 40)).ownsRow 0 40 4 u8 (z + p) (fl l ++ fl (List.replicate p (mkN (-(q : Int) - 1))))) := by
                have h9 := owns_below (owns_below HR.out.row HB9.out) ((Below.refl _ _).alloc (Nat.le_refl _) (.cells #[.int .i64 (-(q : Int) - 1), .string ⟨#[]⟩, .int .i64 0, .int .i64 0] 40))
                rw [HLZ.out, List.length_replicate] at h9
                exact h9
              have HCL : Hid (∀ j v, (mkN (-(q : Int) - 1)).1[j]? = some v → (w10.alloc (.cells #[.int .i64 (-(q : Int) - 1), .string ⟨#[]⟩, .int .i64 0, .int .i64 0] 40)).cell? (Addr.add ⟨w10.heap.size, 0, none⟩ j) = some v) := fun j v hj => by
                rw [addr_add, Nat.zero_add, cell_blkD (heap_alloc_new _ _), ← Array.getElem?_toList]
                exact hj
              go_wp2_with (first
                | (refine wpList_append_any _ rfl _ _ 43 rfl 0 40 i2 (.agg (mkN 0).1.toArray) 4 40 Tryz.underlying43 hi2 hx0 hx1 hx2 rfl (by decide) u8 (z + p) (fl l ++ fl (List.replicate p (mkN (-(q : Int) - 1)))) rfl HRW.out ⟨w10.heap.size, 0, none⟩ 1 1 (mkN (-(q : Int) - 1)).1 rfl (by rw [(mkN (-(q : Int) - 1)).2.1, Nat.one_mul]) HCL.out (mkN (-(q : Int) - 1)).2.2 (by decide) (by unfold maxLen; omega) (by omega) (Nat.zero_le _) ?_
                   intro g' cap w2 hown halt
                   have hnx := HR.out.next (e := mkN (-(q : Int) - 1)) HUB.out (w1 := w10.alloc (.cells #[.int .i64 (-(q : Int) - 1), .string ⟨#[]⟩, .int .i64 0, .int .i64 0] 40)) (w2 := w2) (g' := g') (cap' := cap) (HB9.out.alloc HB9.out.size _) (by rw [HLZ.out, List.length_replicate]; exact hown) (by rw [HLZ.out, List.length_replicate]; exact halt)
                   rw [rep_snoc, HLZ.out, List.length_replicate] at hnx
                   have H2 : Hid _ := hnx
                   clear hown halt hnx)
                | fail)
              exact ⟨⟨p + 1, by rw [show (z : Int) + ((p + 1 : Nat) : Int) = (z : Int) + (p : Int) + 1 by omega], by omega, H2⟩, by simp [intOf]; omega⟩
            · obtain rfl : p = G := by omega
              have hpi : ¬ (z : Int) + (p : Int) < (z : Int) + (p : Int) := by omega
              obtain ⟨gb, gc, rfl⟩ : ∃ gb gc, u8 = .slice (some ⟨gb, 0, none⟩) (z + p) gc := by
                have h9 := HR.out.row
                rw [HLZ.out, List.length_replicate] at h9
                obtain ⟨gb, gc, e, _⟩ := h9.form (by omega)
                exact ⟨gb, gc, e⟩
              go_wp2_with fail
              obtain ⟨w9, hw9⟩ : ∃ w9, wr.drew = w9 := ⟨_, rfl⟩
              have HB9 : Hid (Below wr.heap.size wr w9) := by rw [← hw9]; exact below_drew (Below.refl _ _)
              refine wp_region_held_drew (S := (fun w' => w'.cell? ⟨B, 2, none⟩ = some (.slice (some ⟨hg, 0, none⟩) m nc) ∧ w'.cell? ⟨hg, q, none⟩ = some (.slice ua z uc))) (by kernel_rfl) ⟨b2, hcell⟩ (fun hHeld => ?_)
              rw [hw9] at hHeld ⊢
              clear hw9
              refine wpAnyH_take (i := 0) (v := ?_) rfl (by kernel_rfl) (by kernel_rfl) (by kernel_rfl) (fun _ _ _ h => h) ?_ hHeld ?_
              rotate_left
              · refine Or.inl ⟨by rfl, ?_⟩; intro w hSw; obtain ⟨hh0, hh1⟩ := hSw; go_simp <;> with_reducible rfl
              try simp only [List.getElem_toArray, List.getElem_cons_succ, List.getElem_cons_zero, Act.put, List.setIfInBounds_toArray, List.set_cons_zero, List.set_cons_succ]
              refine wpAnyH_take (i := 1) (v := ?_) rfl (by kernel_rfl) (by kernel_rfl) (by kernel_rfl) (fun _ _ _ h => h) ?_ hHeld ?_
              rotate_left
              · refine Or.inl ⟨by rfl, ?_⟩; intro w hSw; obtain ⟨hh0, hh1⟩ := hSw; go_simp <;> with_reducible rfl
              try simp only [List.getElem_toArray, List.getElem_cons_succ, List.getElem_cons_zero, Act.put, List.setIfInBounds_toArray, List.set_cons_zero, List.set_cons_succ]
              refine wpAnyH_take (i := 2) (v := ?_) rfl (by kernel_rfl) (by kernel_rfl) (by kernel_rfl) (fun _ _ _ h => h) ?_ hHeld ?_
              rotate_left
              · refine Or.inl ⟨by rfl, ?_⟩; intro w hSw; obtain ⟨hh0, hh1⟩ := hSw; go_simp <;> with_reducible rfl
              try simp only [List.getElem_toArray, List.getElem_cons_succ, List.getElem_cons_zero, Act.put, List.setIfInBounds_toArray, List.set_cons_zero, List.set_cons_succ]
              refine wpAnyH_take (i := 3) (v := ?_) rfl (by kernel_rfl) (by kernel_rfl) (by kernel_rfl) (fun _ _ _ h => h) ?_ hHeld ?_
              rotate_left
              · refine Or.inl ⟨by rfl, ?_⟩; intro w hSw; obtain ⟨hh0, hh1⟩ := hSw; go_simp <;> with_reducible rfl
              try simp only [List.getElem_toArray, List.getElem_cons_succ, List.getElem_cons_zero, Act.put, List.setIfInBounds_toArray, List.set_cons_zero, List.set_cons_succ]
              refine wpAnyH_take (i := 4) (v := ?_) rfl (by kernel_rfl) (by kernel_rfl) (by kernel_rfl) (fun _ _ _ h => h) ?_ hHeld ?_
              rotate_left
              · refine Or.inl ⟨by rfl, ?_⟩; intro w hSw; obtain ⟨hh0, hh1⟩ := hSw; go_simp <;> with_reducible rfl
              try simp only [List.getElem_toArray, List.getElem_cons_succ, List.getElem_cons_zero, Act.put, List.setIfInBounds_toArray, List.set_cons_zero, List.set_cons_succ]
              refine wpAnyH_take (i := 5) (v := ?_) rfl (by kernel_rfl) (by kernel_rfl) (by kernel_rfl) (fun _ _ _ h => h) ?_ hHeld ?_
              rotate_left
              · refine Or.inl ⟨by rfl, ?_⟩; intro w hSw; obtain ⟨hh0, hh1⟩ := hSw; go_simp <;> with_reducible rfl
              try simp only [List.getElem_toArray, List.getElem_cons_succ, List.getElem_cons_zero, Act.put, List.setIfInBounds_toArray, List.set_cons_zero, List.set_cons_succ]
              refine wpAnyH_take (i := 6) (v := ?_) rfl (by kernel_rfl) (by kernel_rfl) (by kernel_rfl) (fun _ _ _ h => h) ?_ hHeld ?_
              rotate_left
              · refine Or.inl ⟨by rfl, ?_⟩; intro w hSw; obtain ⟨hh0, hh1⟩ := hSw; go_simp <;> with_reducible rfl
              try simp only [List.getElem_toArray, List.getElem_cons_succ, List.getElem_cons_zero, Act.put, List.setIfInBounds_toArray, List.set_cons_zero, List.set_cons_succ]
              refine wpAnyH_take (i := 7) (v := ?_) rfl (by kernel_rfl) (by kernel_rfl) (by kernel_rfl) (fun _ _ _ h => h) ?_ hHeld ?_
              rotate_left
              · refine Or.inl ⟨by rfl, ?_⟩; intro w hSw; obtain ⟨hh0, hh1⟩ := hSw; go_simp <;> with_reducible rfl
              try simp only [List.getElem_toArray, List.getElem_cons_succ, List.getElem_cons_zero, Act.put, List.setIfInBounds_toArray, List.set_cons_zero, List.set_cons_succ]
              refine wpAnyH_take (i := 8) (v := ?_) rfl (by kernel_rfl) (by kernel_rfl) (by kernel_rfl) (fun _ _ _ h => h) ?_ hHeld ?_
              rotate_left
              · refine Or.inl ⟨by rfl, ?_⟩; intro w hSw; obtain ⟨hh0, hh1⟩ := hSw; go_simp <;> with_reducible rfl
              try simp only [List.getElem_toArray, List.getElem_cons_succ, List.getElem_cons_zero, Act.put, List.setIfInBounds_toArray, List.set_cons_zero, List.set_cons_succ]
              refine wpAnyH_take (i := 9) (v := ?_) rfl (by kernel_rfl) (by kernel_rfl) (by kernel_rfl) (fun _ _ _ h => h) ?_ hHeld ?_
              rotate_left
              · refine Or.inl ⟨by rfl, ?_⟩; intro w hSw; obtain ⟨hh0, hh1⟩ := hSw; go_simp <;> with_reducible rfl
              try simp only [List.getElem_toArray, List.getElem_cons_succ, List.getElem_cons_zero, Act.put, List.setIfInBounds_toArray, List.set_cons_zero, List.set_cons_succ]
              refine wpAnyH_ready (rs := [10]) (by kernel_rfl) (by simp) ?_
              refine AllReadyH.cons rfl (fun K hK => ?_) AllReadyH.nil
              refine step_callx (by rfl) 74 _ _ (by rfl) (fun _ _ => by rfl) [.int .i64 q] (by rfl) (HGB.out w9) ?_
              rintro e w10 ⟨rfl, hw10⟩
              subst hw10
              refine ⟨_, rfl, hK.out _ _ hHeld (fun hHeld => ?_)⟩
              clear hK K
              try simp only [List.getElem_toArray, List.getElem_cons_succ, List.getElem_cons_zero, Act.put, List.setIfInBounds_toArray, List.set_cons_zero, List.set_cons_succ]
              refine wpAnyH_take (i := 11) (v := ?_) rfl (by kernel_rfl) (by kernel_rfl) (by kernel_rfl) (fun _ _ _ h => h) ?_ hHeld ?_
              rotate_left
              · refine Or.inl ⟨by rfl, ?_⟩; intro w hSw; obtain ⟨hh0, hh1⟩ := hSw; go_simp <;> with_reducible rfl
              try simp only [List.getElem_toArray, List.getElem_cons_succ, List.getElem_cons_zero, Act.put, List.setIfInBounds_toArray, List.set_cons_zero, List.set_cons_succ]
              refine wpAnyH_take (i := 12) (v := ?_) rfl (by kernel_rfl) (by kernel_rfl) (by kernel_rfl) (fun _ _ _ h => h) ?_ hHeld ?_
              rotate_left
              · refine Or.inl ⟨by rfl, ?_⟩; intro w hSw; obtain ⟨hh0, hh1⟩ := hSw; go_simp <;> with_reducible rfl
              try simp only [List.getElem_toArray, List.getElem_cons_succ, List.getElem_cons_zero, Act.put, List.setIfInBounds_toArray, List.set_cons_zero, List.set_cons_succ]
              refine wpAnyH_done (by kernel_rfl) ?_ _
              have HR9 : Hid (Gro 40 4 W1 w10 (.slice ua z uc) l (bhd mkN q) (.slice (some ⟨gb, 0, none⟩) (z + p) gc)) := by
                have h9 := HR.out.on HB9.out
                unfold bhd
                rw [HGG.out]
                exact h9
              have HB9b : Hid (Bo w10 B (.slice va n vc) (.slice na m nc) GV gv us ms ls ns) := HB.out.turnN HUQ.out HLQ.out HR9.out.chg HR9.out.old
              obtain ⟨b0, b1, b2, b3⟩ := cells_4 HB9b.out.box
              have HQ : Hid (gs.length = q) := HGV.out.len
              have hq1000 : gs.length ≤ 1000 := by rw [HQ.out]; omega
              have HGH : Hid ((w10.alloc (.cells #[.slice (some ⟨gb, 0, none⟩) (z + p) gc] 43)).ownsRow 0 43 1 gv gs.length gs) := by
                refine owns_below ?_ ((Below.refl _ _).alloc (Nat.le_refl _) _)
                refine owns_same HGV.out.rs.gr (fun b hb => HR9.out.chg.block b (row_block HGV.out.rs.gr b hb).2 (fun e' => ?_))
                have h1 := HGV.out.hd b hb
                have h2 := HFM.out b ⟨q, _, HUQ.out, e'⟩
                omega
              go_wp2_with (first
                | (refine wpList_append_any _ rfl _ _ 58 rfl 0 43 i3 (.slice none 0 0) 1 24 Tryz.underlying58 hi3 hv0 hv1 hv2 rfl (by decide) gv gs.length gs rfl HGH.out ⟨w10.heap.size, 0, none⟩ 1 1 [.slice (some ⟨gb, 0, none⟩) (z + p) gc] rfl rfl (fun j v hj => by rw [addr_add, Nat.zero_add, cell_blkD (heap_alloc_new _ _)]; exact (by simpa using hj)) (by simp [Value.oneCell']) (by decide) (by unfold maxLen; omega) (by omega) (Nat.zero_le _) ?_
                   intro g3 c3 w3 h3 hal
                   have HAL : Hid _ := And.intro h3 hal
                   have hB3 : w3.heap[B]? = some (.cells #[.slice va n vc, GV, .slice na m nc, gv] 60 (0, 0)) := by
                     have h9 := new_old HB9b.out.box (.cells #[.slice (some ⟨gb, 0, none⟩) (z + p) gc] 43)
                     rcases hal with ⟨e, hg3⟩ | ⟨_, hg3⟩
                     · rw [hg3.block B (lt_of_blk h9) (fun e' => by
                         cases e'
                         have h1 := HGV.out.hd B (by rw [e]; rfl)
                         have h2 := HBW.out
                         omega)]
                       exact h9
                     · rw [hg3.block B (lt_of_blk h9) (fun e' => by cases e')]
                       exact h9
                   obtain ⟨c0, c1, c2, c3'⟩ := cells_4 hB3
                   have fb : ∀ o, w3.frozen? ⟨B, o, none⟩ = false := free_of hB3
                   clear h3 hal hB3)
                | fail)
              obtain ⟨h3, hal⟩ := HAL.out
              obtain ⟨row, hgr, hrow⟩ : ∃ row, (w10.alloc (.cells #[.slice (some ⟨gb, 0, none⟩) (z + p) gc] 43)).grownBy w3 row ∧ ∀ b, row = some b → gv.ownBlock = some b := by
                rcases hal with ⟨e, hg3⟩ | ⟨_, hg3⟩
                · exact ⟨_, hg3, fun b hb => by cases hb; rw [e]; rfl⟩
                · exact ⟨_, hg3, fun b hb => by cases hb⟩
              have hbe : Below w10.heap.size w10 (w10.alloc (.cells #[.slice (some ⟨gb, 0, none⟩) (z + p) gc] 43)) := (Below.refl _ _).alloc (Nat.le_refl _) _
              refine ⟨⟨q + 1, _, _, by rw [show ((q + 1 : Nat) : Int) = (q : Int) + 1 by omega], by omega, HB9b.out.more hbe hgr (fun b hb => ?_) rfl, HGV.out.next (by decide) HB.out.fm HFM.out HC.out.size HLM.out HUQ.out HLQ.out HR9.out hbe h3 hal HB.out.box (by decide) (by decide) HBW.out _, HRS.out.past HR9.out (HB.out.fm.row q _ l HUQ.out HLQ.out) hbe hgr HGV.out.rs.gr (fun b hb => .inl (hrow b hb)) HB.out.box (by decide) (by decide) (by decide) (by decide) (by decide) (by decide), ?_⟩, by simp [intOf]; omega⟩
              · have h1 := HGV.out.hd b (hrow b hb)
                exact ⟨by have := HBW.out; omega, fun e => by have := HHV.out b e; omega, fun e => by have := HHN.out b e; omega, fun e => by have := HFU.out b e; omega, fun e => by have := HFM.out b e; omega⟩
              · refine chg_more (chg_more (chg_more (chg_more HC.out HR9.out.chg (fun j hj => .inl (.inr (.inr ⟨q, _, HUQ.out, hj⟩)))) (Chg.of_below hbe (fun _ => False)) (fun j hj => hj.elim)) (Chg.grown hgr) (fun j hj => .inr (HGV.out.hd j (hrow j hj)))) (Chg.set _ _ _) (fun j hj => .inl (.inl hj))
        · obtain rfl : m = q := by omega
          have hqi : ¬ (m : Int) < (m : Int) := by omega
          go_wp2_with fail
          exact bodyPost_end (results_none rfl _ _ _) rfl ⟨rfl, GV, gv, HB.out, GS, HRS.out, HGL.out, gs, HG.out.rs, HG.out.len, HC.out, HNV.out, HG.out.new HM.out⟩
end Go.Proofs.YtbblckcjedjbcaaGreatDoor.J
