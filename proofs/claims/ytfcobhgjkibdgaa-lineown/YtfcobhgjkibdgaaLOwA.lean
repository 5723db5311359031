/-
  line: own.go: a list that is written full and gone on from.
-/
import Derived.Test.YtfcobhgjkibdgaaLAt
import Derived.Test.YtfcobhgjkibdgaaLFam2
import Derived.Test.YtfcobhgjkibdgaaLSit
namespace Go.Proofs.Ytfcobhgjkibdgaa
open Go.RowKit Go.Maps
set_option linter.unusedVariables false
set_option linter.unusedSimpArgs false

def eI (x : Int) : El 1 := ⟨[.int .i64 x], rfl, by simp [Value.oneCell']⟩
theorem fl_eI : ∀ xs : List Int, fl (xs.map eI) = xs.map (.int .i64 ·)
  | [] => rfl
  | x :: xs => by
    have := fl_eI xs
    simp only [fl, List.map_cons, List.flatMap_cons] at this ⊢
    rw [this]
    rfl
/-- A list that is in the book. -/
structure BkT where
  u : Value
  g : Value
  n : Nat
  m : Int
abbrev BkT.cells (b : BkT) : List Value := [b.u, b.g, .int .i64 b.m]
def goL (m : Int) (q : Nat) : List Int := (List.range q).map (fun i : Nat => m - 1 - (i : Int))
theorem goL_len (m : Int) (q : Nat) : (goL m q).length = q := by simp [goL]
theorem goL_snoc (m : Int) (q : Nat) : goL m (q + 1) = goL m q ++ [m - 1 - (q : Int)] := by simp [goL, List.range_succ]
theorem goL_at {m : Int} {q i : Nat} (h : i < q) : (goL m q)[i]? = some (m - 1 - (i : Int)) := by simp [goL, List.getElem?_range h]
/-- It is as it was written. -/
structure BkE (w : World) (b : BkT) : Prop where
  l : w.ownsRow 0 3 1 b.u b.n ((List.replicate b.n b.m).map (.int .i64 ·))
  g : w.ownsRow 0 3 1 b.g (b.n + 64) ((List.replicate b.n b.m ++ goL b.m 64).map (.int .i64 ·))
def BkB (b : BkT) (j : Nat) : Prop := b.u.ownBlock = some j ∨ b.g.ownBlock = some j
theorem BkE.keep {w w' : World} {b : BkT} (h : BkE w b) (hk : Kp w w' (BkB b)) : BkE w' b :=
  ⟨owns_same h.l (fun k e => hk.block k (row_block h.l k e).2 (.inl e)), owns_same h.g (fun k e => hk.block k (row_block h.g k e).2 (.inr e))⟩
theorem BkE.lt {w : World} {b : BkT} (h : BkE w b) : ∀ j, BkB b j → j < w.heap.size := fun j hj => by
  rcases hj with hj | hj
  · exact (row_block h.l j hj).2
  · exact (row_block h.g j hj).2
theorem BkE.kind {w : World} {b : BkT} (h : BkE w b) : ∀ j, BkB b j → ∃ cur, w.heap[j]? = some (.cells cur 3 (0, 0)) := fun j hj => by
  rcases hj with hj | hj
  · exact row_kind h.l j hj
  · exact row_kind h.g j hj
/-- Written so far. -/
def wrL (xs : List Int) (m : Int) (q : Nat) : List Int := List.replicate q m ++ xs.drop q
theorem wrL_len {xs : List Int} {m : Int} {q : Nat} (h : q ≤ xs.length) : (wrL xs m q).length = xs.length := by simp [wrL]; omega
theorem wrL_next {xs : List Int} {m : Int} {q : Nat} (h : q < xs.length) : ((wrL xs m q).map (Value.int .i64 ·)).set q (.int .i64 m) = (wrL xs m (q + 1)).map (Value.int .i64 ·) := by
  apply List.ext_getElem?
  intro i
  rw [List.getElem?_set]
  simp only [wrL, List.getElem?_map, List.getElem?_append, List.length_replicate, List.length_map, List.length_append, List.length_drop, List.getElem?_replicate, List.getElem?_drop]
  by_cases e : q = i
  · subst e
    simp
    omega
  · rw [if_neg e]
    by_cases h1 : i < q
    · simp [h1, show i < q + 1 by omega]
    · simp [h1, show ¬ i < q + 1 by omega, show q + (i - q) = i by omega, show q + 1 + (i - (q + 1)) = i by omega]
theorem wpList_app_int {w : World} {ops : Array Oper} {rest : List Oper} {o : Oper} {act : Act} {Q : Exit → Act → World → Prop} (hgd : o.guard = none) (s x : Operand) (ho : o.op = .call { callee := .builtin .append, args := #[s, x], argTypes := #[28, 28] })
    (v : Value) (n : Nat) (xs : List Value) (hs : act.eval s = v) (hown : w.ownsRow 0 3 1 v n xs) (gx c : Nat) (y : Value) (hx : act.eval x = .slice (some ⟨gx, 0, none⟩) 1 c) (hg : w.heap[gx]? = some (.cells #[y] 3 (0, 0))) (h1 : y.oneCell' = true) (hn : n ≤ 1000000)
    (h : ∀ g cap w', w'.ownsRow 0 3 1 (.slice (some ⟨g, 0, none⟩) (n + 1) cap) (n + 1) (xs ++ [y]) → ((v = .slice (some ⟨g, 0, none⟩) n cap ∧ w.grownBy w' (some g)) ∨ (w.heap.size ≤ g ∧ w.grownBy w' none)) → wpList Try.prog ops Q rest (act.put o.dst (.slice (some ⟨g, 0, none⟩) (n + 1) cap)) w') : wpList Try.prog ops Q (o :: rest) act w := by
  cases hi : Try.prog.info? 3 with
  | none => have := Try.info_int; rw [hi] at this; cases this
  | some i0 =>
    have hinfo := Try.info_int
    rw [hi] at hinfo
    simp only [Option.map_some, Option.some.injEq, Prod.mk.injEq] at hinfo
    refine wpList_append_any w hgd s x 28 ho 0 3 i0 _ 1 8 Try.underlying28 hi hinfo.1 hinfo.2.1 hinfo.2.2 rfl (by omega) v n xs hs hown ⟨gx, 0, none⟩ 1 c [y] hx rfl (fun j u hj => ?_) (fun u hu => by rw [show u = y by simpa using hu]; exact h1) (by omega) (by unfold maxLen; omega) (by omega) (Nat.zero_le _) h
    rw [addr_add, Nat.zero_add, cell_blkD hg]
    simpa using hj
theorem Gro.put {T sz : Nat} {Wq wr w' : World} {u g : Value} {l k : List (El sz)} {gb : Nat} (h : Gro T sz Wq wr u l k g) (hc : Chg wr w' (fun j => j = gb)) (hgb : Wq.heap.size ≤ gb) (hu : ∀ b, u.ownBlock = some b → b ≠ gb) (hg : ∀ b, g.ownBlock = some b → b ≠ gb) : Gro T sz Wq w' u l k g :=
  ⟨⟨hc.os.trans h.chg.os, hc.tape.trans h.chg.tape, hc.output.trans h.chg.output, Nat.le_trans h.chg.size hc.size, fun i hi hs => (hc.block i (Nat.lt_of_lt_of_le hi h.chg.size) (fun e => by omega)).trans (h.chg.block i hi hs)⟩, row_chg h.row hc hg, row_chg h.old hc hu, h.alt⟩
theorem Gro.ext {T sz : Nat} {Wq wr w' : World} {u g : Value} {l k : List (El sz)} (h : Gro T sz Wq wr u l k g) (hb : Below wr.heap.size wr w') : Gro T sz Wq w' u l k g :=
  ⟨h.chg.trans (Chg.of_below hb _), owns_below h.row hb, owns_below h.old hb, h.alt⟩
theorem Gro.blk {T sz : Nat} {Wq wr : World} {u g : Value} {l k : List (El sz)} (h : Gro T sz Wq wr u l k g) : ∀ j, g.ownBlock = some j → u.ownBlock = some j ∨ Wq.heap.size ≤ j := fun j hj => by
  rcases h.alt with ⟨a, c, hu, hg⟩ | ⟨b, hb, hN⟩
  · refine .inl ?_
    rw [hg] at hj
    rw [hu]
    cases a with
    | none => cases hj
    | some a => exact hj
  · rw [hb] at hj
    cases hj
    exact .inr hN
set_option maxHeartbeats 3200000 in
set_option maxRecDepth 100000 in
theorem kept_any (u : Value) (xs : List Int) (m : Int) (w : World) (h : InsOwn w 0 u xs) (hm : -1000000 ≤ m ∧ m ≤ 0) (hl : xs.length ≤ 1000) :
    Calls Try.prog 37 #[u, .int .i64 m] w fun e w' => ∃ g, e = .returned (.agg #[u, g, .int .i64 m]) ∧ BkE w' ⟨u, g, xs.length, m⟩ ∧ (∀ j, g.ownBlock = some j → u.ownBlock = some j ∨ w.heap.size ≤ j) ∧ Chg w w' (fun j => u.ownBlock = some j) := by
  obtain ⟨ua, uc, rfl, _⟩ := row_form h
  obtain ⟨n, hn⟩ : ∃ z, xs.length = z := ⟨_, rfl⟩
  obtain ⟨W, hW⟩ : ∃ z, w.alloc (.cells #[.slice none 0 0, .slice none 0 0, .int .i64 0] 81) = z := ⟨_, rfl⟩
  obtain ⟨g0, hg0⟩ : ∃ z, w.heap.size = z := ⟨_, rfl⟩
  have hbW : Below w.heap.size w W := by rw [← hW]; exact (Below.refl _ _).alloc (Nat.le_refl _) _
  have HX0 : Hid (W.heap[g0]? = some (.cells #[.slice none 0 0, .slice none 0 0, .int .i64 0] 81 (0, 0))) := by show _ = _; rw [← hW, ← hg0]; exact heap_alloc_new _ _
  have HW : Hid (_ = W) := hW
  have HG0 : Hid (w.heap.size = g0) := hg0
  have HBW : Hid (Below w.heap.size w W) := hbW
  have HLT : Hid (∀ j, (Value.slice ua n uc).ownBlock = some j → j < w.heap.size) := fun j hj => (row_block h j (by rw [hn]; exact hj)).2
  have HR0 : Hid (W.ownsRow 0 3 1 (.slice ua n uc) n ((wrL xs m 0).map (.int .i64 ·))) := by
    have h9 := owns_below h hbW
    rw [hn] at h9
    exact h9
  have HN : Hid (xs.length = n) := hn
  rw [hn] at hl ⊢
  clear h hn hbW hW hg0
  go_enter Try.func37, Try.ntmps37
  go_upto_region 1 with fail
  rw [HW.out, HG0.out]
  go_wp2_with fail
  go_loopw [5] (fun i wr => ∃ q : Nat, i = .int .i64 q ∧ q ≤ n ∧ Hid (wr.ownsRow 0 3 1 (.slice ua n uc) n ((wrL xs m q).map (.int .i64 ·)) ∧ Chg W wr (fun j => (Value.slice ua n uc).ownBlock = some j))) (fun i _ => n - (intOf i).toNat)
  case atStart => exact ⟨0, rfl, Nat.zero_le _, HR0.out, Chg.refl _ _⟩
  case round =>
    obtain ⟨q, rfl, hq, HI⟩ := hrel
    by_cases hlt : q < n
    · have hqi : (q : Int) < (n : Int) := by omega
      obtain ⟨k0, hk0⟩ : ∃ k, n = k + 1 := ⟨n - 1, by omega⟩
      obtain ⟨bg, bc, hbv⟩ : ∃ g c, (Value.slice ua n uc) = .slice (some ⟨g, 0, none⟩) n c := by have h9 := HI.out.1; rw [hk0] at h9 ⊢; exact row_some h9
      simp only [Value.slice.injEq] at hbv
      obtain ⟨rfl, -, rfl⟩ := hbv
      obtain ⟨x, hx⟩ : ∃ x, ((wrL xs m q).map (Value.int .i64 ·))[q]? = some x := ⟨_, List.getElem?_eq_getElem (by rw [List.length_map, wrL_len (by rw [HN.out]; exact hq), HN.out]; exact hlt)⟩
      have c0 := cell_n HI.out.1 hx
      obtain ⟨cur, hcur⟩ := row_kind HI.out.1 bg rfl
      have f0 := free_of hcur q
      have HS : Hid ((wr.setCell ⟨bg, q, none⟩ (.int .i64 m)).ownsRow 0 3 1 (.slice (some ⟨bg, 0, none⟩) n uc) n ((wrL xs m (q + 1)).map (.int .i64 ·)) ∧ Chg W (wr.setCell ⟨bg, q, none⟩ (.int .i64 m)) (fun j => (Value.slice (some ⟨bg, 0, none⟩) n uc).ownBlock = some j)) := by
        refine ⟨?_, HI.out.2.trans ((Chg.set wr ⟨bg, q, none⟩ _).mono (fun j _ e => by rw [e]; rfl))⟩
        rw [← wrL_next (by rw [HN.out]; exact hlt)]
        exact owns_set HI.out.1 _
      clear hk0 hx hcur hlt
      go_wp2_with fail
      go_roundw
      case rel => exact ⟨q + 1, by go_num, by omega, HS.out⟩
      case measure => simp [intOf]; omega
    · obtain rfl : q = n := by omega
      have hge : ¬ (q : Int) < (q : Int) := by omega
      have HRQ : Hid (wr.ownsRow 0 3 1 (.slice ua q uc) q ((List.replicate q m).map (.int .i64 ·))) := by
        have h9 := HI.out.1
        have e : wrL xs m q = List.replicate q m := by unfold wrL; rw [List.drop_eq_nil_of_le (Nat.le_of_eq HN.out)]; simp
        rw [e] at h9
        exact h9
      have HCQ : Hid (Chg w wr (fun j => (Value.slice ua q uc).ownBlock = some j)) := (Chg.of_below HBW.out _).trans HI.out.2
      have HX1 : Hid (wr.heap[g0]? = some (.cells #[.slice none 0 0, .slice none 0 0, .int .i64 0] 81 (0, 0))) := by
        refine (HI.out.2.block g0 (lt_of_blk HX0.out) (fun e => ?_)).trans HX0.out
        have := HLT.out g0 e
        have := HG0.out
        omega
      clear HI HR0
      obtain ⟨Wq, rfl⟩ : ∃ z, z = wr := ⟨_, rfl⟩
      obtain ⟨W6, hW6⟩ : ∃ z, Wq.alloc (.cells #[.slice ua q uc, .slice ua q uc, .int .i64 m] 81) = z := ⟨_, rfl⟩
      obtain ⟨g6, hg6⟩ : ∃ z, Wq.heap.size = z := ⟨_, rfl⟩
      have hb6 : Below Wq.heap.size Wq W6 := by rw [← hW6]; exact (Below.refl _ _).alloc (Nat.le_refl _) _
      have HX6 : Hid (W6.heap[g6]? = some (.cells #[.slice ua q uc, .slice ua q uc, .int .i64 m] 81 (0, 0))) := by show _ = _; rw [← hW6, ← hg6]; exact heap_alloc_new _ _
      have HG6 : Hid (Wq.heap.size = g6) := hg6
      have HW6 : Hid (_ = W6) := hW6
      have HGR : Hid (Gro 3 1 Wq W6 (.slice ua q uc) ((List.replicate q m).map eI) ((goL m 0).map eI) (.slice ua q uc)) := by
        refine Gro.ext (Gro.start ?_) hb6
        rw [fl_eI, List.length_map, List.length_replicate]
        exact HRQ.out
      have HX16 : Hid (W6.heap[g0]? = some (.cells #[.slice none 0 0, .slice none 0 0, .int .i64 0] 81 (0, 0))) := kept_block hb6 HX1.out
      have HUL : Hid (∀ b, (Value.slice ua q uc).ownBlock = some b → b < Wq.heap.size) := fun b hb => (row_block HRQ.out b hb).2
      clear hW6 hb6 hg6
      go_upto_region 6 with fail
      rw [HW6.out, HG6.out]
      go_wp2_with fail
      go_loopw [7] (fun i wr => ∃ (p : Nat) (gv : Value), i = .int .i64 p ∧ p ≤ 64 ∧ Hid (Gro 3 1 Wq wr (.slice ua q uc) ((List.replicate q m).map eI) ((goL m p).map eI) gv ∧ wr.heap[g6]? = some (.cells #[.slice ua q uc, gv, .int .i64 m] 81 (0, 0)) ∧ wr.heap[g0]? = some (.cells #[.slice none 0 0, .slice none 0 0, .int .i64 0] 81 (0, 0)))) (fun i _ => 64 - (intOf i).toNat)
      case atStart => exact ⟨0, _, rfl, Nat.zero_le _, HGR.out, HX6.out, HX16.out⟩
      case round =>
        obtain ⟨p, gv, rfl, hp, HI⟩ := hrel
        by_cases hlt : p < 64
        · have hpi : (p : Int) < 64 := by omega
          obtain ⟨y0, y1, y2⟩ := cells_3 HI.out.2.1
          have f6 := free_of HI.out.2.1
          have hl6 := lt_of_blk HI.out.2.1
          have HROW : Hid (wr.ownsRow 0 3 1 gv (q + p) (fl ((List.replicate q m).map eI) ++ fl ((goL m p).map eI))) := by
            have h9 := HI.out.1.row
            rw [List.length_map, List.length_replicate, List.length_map, goL_len] at h9
            exact h9
          obtain ⟨XS, hXS⟩ : ∃ z, fl ((List.replicate q m).map eI) ++ fl ((goL m p).map eI) = z := ⟨_, rfl⟩
          have HXS : Hid (fl ((List.replicate q m).map eI) ++ fl ((goL m p).map eI) = XS) := hXS
          rw [hXS] at HROW
          clear hXS
          have hw1 : IntKind.i64.wrap (m - 1) = m - 1 := by unfold IntKind.wrap; simp [IntKind.bits, IntKind.signed]; omega
          have hw2 : IntKind.i64.wrap (m - 1 - (p : Int)) = m - 1 - (p : Int) := by unfold IntKind.wrap; simp [IntKind.bits, IntKind.signed]; omega
          go_wp2_with (first
            | (at_builtin; go_loud (refine wpList_app_int rfl _ _ rfl gv (q + p) XS rfl (World.ownsRow.alloc HROW.out _) wr.heap.size 1 (.int .i64 (m - 1 - (p : Int))) rfl (heap_alloc_new _ _) rfl (by omega) ?_))
            | fail)
          intro gn cap w2 hown2 halt2
          have HG2 : Hid (Gro 3 1 Wq w2 (.slice ua q uc) ((List.replicate q m).map eI) ((goL m (p + 1)).map eI) (.slice (some ⟨gn, 0, none⟩) (q + p + 1) cap)) := by
            have hlq : ((List.replicate q m).map eI).length = q := by simp
            have hlp : ((goL m p).map eI).length = p := by simp [goL_len]
            have hal : Below wr.heap.size wr (wr.alloc (.cells #[.int .i64 (m - 1 - (p : Int))] 3)) := (Below.refl _ _).alloc (Nat.le_refl _) _
            have h9 := Gro.next (e := eI (m - 1 - (p : Int))) HI.out.1 HUL.out hal (g' := gn) (cap' := cap) (w2 := w2) (by rw [hlq, hlp, HXS.out]; exact hown2) (by rw [hlq, hlp]; simpa using halt2)
            rw [hlq, hlp, show (goL m p).map eI ++ [eI (m - 1 - (p : Int))] = (goL m (p + 1)).map eI by rw [goL_snoc]; simp] at h9
            exact h9
          have hcg : ∀ (j : Nat) (cs : Array Value), wr.heap[j]? = some (Obj.cells cs 81 (0, 0)) → w2.heap[j]? = some (Obj.cells cs 81 (0, 0)) := fun j cs hj => by
            have h0 : (wr.alloc (.cells #[.int .i64 (m - 1 - (p : Int))] 3)).heap[j]? = some (.cells cs 81 (0, 0)) := kept_block ((Below.refl _ _).alloc (Nat.le_refl _) _) hj
            rcases halt2 with ⟨e9, hgr⟩ | ⟨_, hgr⟩
            · refine blk_other h0 (Chg.grown hgr) (f := 3) (fun i hi _ => ?_) (by decide)
              cases hi
              exact row_kind (World.ownsRow.alloc HROW.out (.cells #[.int .i64 (m - 1 - (p : Int))] 3)) gn (by rw [e9]; rfl)
            · exact ((Chg.grown hgr).block j (lt_of_blk h0) (fun e => by cases e)).trans h0
          have HX62 : Hid (w2.heap[g6]? = some (.cells #[.slice ua q uc, gv, .int .i64 m] 81 (0, 0))) := hcg _ _ HI.out.2.1
          have HX02 : Hid (w2.heap[g0]? = some (.cells #[.slice none 0 0, .slice none 0 0, .int .i64 0] 81 (0, 0))) := hcg _ _ HI.out.2.2
          have y1' := (cells_3 HX62.out).2.1
          have f62 := free_of HX62.out
          clear hown2 halt2 hcg
          have HF : Hid (Gro 3 1 Wq (w2.setCell ⟨g6, 1, none⟩ (.slice (some ⟨gn, 0, none⟩) (q + p + 1) cap)) (.slice ua q uc) ((List.replicate q m).map eI) ((goL m (p + 1)).map eI) (.slice (some ⟨gn, 0, none⟩) (q + p + 1) cap) ∧ (w2.setCell ⟨g6, 1, none⟩ (.slice (some ⟨gn, 0, none⟩) (q + p + 1) cap)).heap[g6]? = some (.cells #[.slice ua q uc, .slice (some ⟨gn, 0, none⟩) (q + p + 1) cap, .int .i64 m] 81 (0, 0)) ∧ (w2.setCell ⟨g6, 1, none⟩ (.slice (some ⟨gn, 0, none⟩) (q + p + 1) cap)).heap[g0]? = some (.cells #[.slice none 0 0, .slice none 0 0, .int .i64 0] 81 (0, 0))) := by
            have hc := Chg.set w2 ⟨g6, 1, none⟩ (.slice (some ⟨gn, 0, none⟩) (q + p + 1) cap)
            refine ⟨Gro.put HG2.out hc (Nat.le_of_eq HG6.out) (fun b hb e => ?_) (fun b hb e => ?_), set_at HX62.out, (hc.block g0 (lt_of_blk HX02.out) (fun e => ?_)).trans HX02.out⟩
            · obtain ⟨cur, hcur⟩ := row_kind HG2.out.old b hb
              exact kind_ne hcur HX62.out (by decide) e
            · obtain ⟨cur, hcur⟩ := row_kind HG2.out.row b hb
              exact kind_ne hcur HX62.out (by decide) e
            · have h1 : g0 = g6 := e
              have := lt_of_blk HX1.out
              have := HG6.out
              omega
          go_wp2_with fail
          go_roundw
          case rel => exact ⟨p + 1, _, by go_num, by omega, HF.out⟩
          case measure => simp [intOf]; omega
        · obtain rfl : p = 64 := by omega
          have hge : ¬ ((64 : Nat) : Int) < 64 := by omega
          have HROW : Hid (wr.ownsRow 0 3 1 gv (q + 64) (fl ((List.replicate q m).map eI) ++ fl ((goL m 64).map eI))) := by
            have h9 := HI.out.1.row
            rw [List.length_map, List.length_replicate, List.length_map, goL_len] at h9
            exact h9
          obtain ⟨va, vc, rfl, _⟩ := row_form HROW.out
          obtain ⟨y0, y1, y2⟩ := cells_3 HI.out.2.1
          obtain ⟨z0, z1, z2⟩ := cells_3 HI.out.2.2
          have f0 := free_of HI.out.2.2
          go_wp2_with fail
          have hc9 : Chg wr (put_3 wr g0 (.slice ua q uc) (.slice va (q + 64) vc) (.int .i64 m)) (fun j => j = g0) := chg_put3 wr g0 _ _ _
          have fin : BkE (put_3 wr g0 (.slice ua q uc) (.slice va (q + 64) vc) (.int .i64 m)) ⟨.slice ua q uc, .slice va (q + 64) vc, q, m⟩ ∧ (∀ j, (Value.slice va (q + 64) vc).ownBlock = some j → (Value.slice ua q uc).ownBlock = some j ∨ w.heap.size ≤ j) ∧ Chg w (put_3 wr g0 (.slice ua q uc) (.slice va (q + 64) vc) (.int .i64 m)) (fun j => (Value.slice ua q uc).ownBlock = some j) := by
            have hold := HI.out.1.old
            rw [fl_eI, List.length_map, List.length_replicate] at hold
            have hrow := HROW.out
            rw [fl_eI, fl_eI, ← List.map_append] at hrow
            refine ⟨⟨row_other hold hc9 (Kind.one HI.out.2.2) (by decide), row_other hrow hc9 (Kind.one HI.out.2.2) (by decide)⟩, fun j hj => ?_, ?_⟩
            · rcases Gro.blk HI.out.1 j hj with h1 | h1
              · exact .inl h1
              · exact .inr (Nat.le_trans HCQ.out.size h1)
            · exact chg_newG (HCQ.out.trans HI.out.1.chg) hc9 (Nat.le_of_eq HG0.out)
          exact bodyPost_ret (results_cell rfl _ _ g0 81 _ (0, 0) _ rfl (fill_3 HI.out.2.2) Try.underlying81 rfl (by kernel_rfl)) rfl ⟨_, rfl, fin⟩
end Go.Proofs.Ytfcobhgjkibdgaa
