/-
  ViewOfNothing: the walk.
-/
import Derived.Test.YtlbhnlpdijhmlaaVServe
import Derived.Test.YtlbhnlpdijhmlaaVPlayed
import Derived.Test.YtlbhnlpdijhmlaaVBegin
import Derived.Test.YtlbhnlpdijhmlaaVScript
namespace Go.Proofs.Ytlbhnlpdijhmlaa
open Go.RowKit
set_option linter.unusedVariables false
set_option linter.unusedSimpArgs false

abbrev Zv : SvT := ⟨0, [], false⟩
theorem zero_does (y : WhT) : Zv.does y = Zv := by
  have h1 : ∀ n k, Zv.sett n k = Zv := fun n k => (SvT.sett_none rfl n k).2
  unfold SvT.does
  split
  · exact (SvT.prom_un rfl _ _).2
  · split
    · exact h1 _ _
    · split
      · unfold SvT.took
        split
        · exact h1 _ _
        · rfl
      · rfl
theorem zero_at (w : World) : AtV (w.alloc (.cells #[.int .i64 0, .int .i32 0, .int .u32 0, .slice none 0 0, .bool false] 70)) (fun j => j = w.heap.size) Zv (.pointer (some ⟨w.heap.size, 0, none⟩)) :=
  .inr ⟨w.heap.size, .slice none 0 0, rfl, ⟨zero_ok, heap_alloc_new _ _, ⟨rfl, .inl ⟨rfl, rfl⟩⟩, by simp [Value.ownBlock]⟩, fun j => by simp [Value.ownBlock]⟩
/-- A zero service and the document's beside it. -/
structure Oz (w wr : World) (K : Nat → Prop) (pb : Value) (d : Nat) : Prop where
  nw : Nw AtV w wr K Zv pb
  dx : wr.heap[d]? = some (.cells #[.int .i64 0, .slice none 0 0, .bool false] 72 (0, 0))
  nk : ¬ K d
theorem Oz.on {w wr w' : World} {K : Nat → Prop} {pb : Value} {d : Nat} (h : Oz w wr K pb d) (hb : Below wr.heap.size wr w') : Oz w w' K pb d := ⟨h.nw.on serves hb, kept_block hb h.dx, h.nk⟩
theorem Oz.call {w wr w' : World} {K : Nat → Prop} {pb : Value} {d : Nat} (h : Oz w wr K pb d) (he : SvE AtV wr K Zv pb w') : ∃ K', Oz w w' K' pb d ∧ ∀ j, K' j → K j ∨ wr.heap.size ≤ j := by
  obtain ⟨K', h1, h2, h3⟩ := he
  have hd := lt_of_blk h.dx
  refine ⟨K', ⟨⟨h1, ?_, fun j hj => (h3 j hj).elim (h.nw.new j) (fun hh => Nat.le_trans h.nw.below.size hh)⟩, by rw [h2.block d hd h.nk]; exact h.dx, fun hk => (h3 d hk).elim h.nk (fun hh => by omega)⟩, h3⟩
  exact ⟨h2.os.trans h.nw.below.os, h2.tape.trans h.nw.below.tape, h2.output.trans h.nw.below.output, Nat.le_trans h.nw.below.size h2.size, fun j hj => by rw [h2.block j (Nat.lt_of_lt_of_le hj h.nw.below.size) (fun e => by have := h.nw.new j e; omega)]; exact h.nw.below.block j hj⟩
/-- An act is played at none. -/
theorem played_none {w wr : World} {K : Nat → Prop} {pb : Value} {d : Nat} (h : Oz w wr K pb d) {y : WhT} {cs : List Value} (ha : y.At cs) :
    Calls Try.prog 22 #[.pointer none, svV 0 (.slice none 0 0) false, .agg cs.toArray] wr fun e w' => ∃ a c, e = .returned (.tuple #[svV 0 (.slice a 0 c) false, .bool true]) ∧ Oz w w' K pb d ∧ Below wr.heap.size wr w' := by
  refine (played_any serves wr (fun _ => False) (fun _ => False) Zv (.pointer none) (.slice none 0 0) y cs (nil_at wr) (RowAt.nil _ _ _ _) (fun _ _ h => h.elim) ha).mono ?_
  rintro e w' ⟨v', rfl, K', h1, h2, h3, h4⟩
  rw [zero_does] at h4 ⊢
  obtain ⟨a, c, rfl, -⟩ := RowAt.form h4
  have hb : Below wr.heap.size wr w' := h2.below (Nat.le_refl _) (fun _ _ h => h.elim)
  exact ⟨a, c, rfl, h.on hb, hb⟩
/-- An act is played at a zero service. -/
theorem played_zero {w wr : World} {K : Nat → Prop} {pb : Value} {d : Nat} (h : Oz w wr K pb d) {y : WhT} {cs : List Value} (ha : y.At cs) :
    Calls Try.prog 22 #[pb, svV 0 (.slice none 0 0) false, .agg cs.toArray] wr fun e w' => ∃ a c, e = .returned (.tuple #[svV 0 (.slice a 0 c) false, .bool true]) ∧ (∃ K', Oz w w' K' pb d ∧ ∀ j, K' j → K j ∨ wr.heap.size ≤ j) ∧ Chg wr w' K := by
  refine (played_any serves wr K (fun _ => False) Zv pb (.slice none 0 0) y cs h.nw.at' (RowAt.nil _ _ _ _) (fun _ _ h => h.elim) ha).mono ?_
  rintro e w' ⟨v', rfl, K', h1, h2, h3, h4⟩
  rw [zero_does] at h1 h4 ⊢
  obtain ⟨a, c, rfl, -⟩ := RowAt.form h4
  exact ⟨a, c, rfl, h.call ⟨K', h1, h2, h3⟩, h2⟩
theorem act_old {w wr : World} {K : Nat → Prop} {pb : Value} {d b o : Nat} {cs : List Value} (h : Oz w wr K pb d) (hr : w.rangeAt b o cs) (hb : b < w.heap.size) : wr.rangeAt b o cs := fun j u hu => by
  rw [h.nw.below.cell (p := ⟨b, o + j, none⟩) hb]
  exact hr j u hu
theorem Oz.st {w wr : World} {K : Nat → Prop} {pb : Value} {d b o : Nat} {cs : List Value} (h : Oz w wr K pb d) (hr : w.rangeAt b o cs) (hb : b < w.heap.size) : wr.rangeAt b o cs ∧ wr.cell? ⟨d, 0, none⟩ = some (.int .i64 0) ∧ wr.cell? ⟨d, 1, none⟩ = some (.slice none 0 0) ∧ wr.cell? ⟨d, 2, none⟩ = some (.bool false) := ⟨act_old h hr hb, cells_3 h.dx⟩
theorem oz_put {w wr : World} {K : Nat → Prop} {pb : Value} {d d8 : Nat} {x0 x1 x2 : Value} (h : Oz w wr K pb d) (hne : d8 ≠ d ∧ ¬ K d8 ∧ w.heap.size ≤ d8) : Oz w (put_3 wr d8 x0 x1 x2) K pb d := by
  have hc := chg_put3 wr d8 x0 x1 x2
  refine ⟨⟨serves.keep h.nw.at' (Kp.of_chg hc (fun j _ hj e => hne.2.1 (by have e : j = d8 := e; rw [← e]; exact hj))), fillB_3 h.nw.below hne.2.2, h.nw.new⟩, fillO_3 h.dx (fun e => hne.1 e.symm), h.nk⟩
set_option maxHeartbeats 25600000 in
set_option maxRecDepth 100000 in
theorem ViewOfNothing_walk (v : Value) (l : List WhT) (w : World) (h : ActsAt w (fun b => b < w.heap.size) v l) (hl : l.length ≤ maxLen) :
    Calls Try.prog 8 #[v] w fun e w' => e = .returned (.bool true) ∧ Below w.heap.size w w' := by
  unfold maxLen at hl
  obtain ⟨a, c, rfl, hc⟩ := RowAt.form h
  obtain ⟨m, hm⟩ : ∃ m, l.length = m := ⟨_, rfl⟩
  rw [hm] at h hl ⊢
  have HM : Hid (l.length = m) := hm
  have HLS : Hid (ActsAt w (fun b => b < w.heap.size) (.slice a m c) l) := h
  have HBE : Hid (∀ w, _) := fun w => begins_any serves w
  clear h hm hc
  go_enter Try.func8, Try.ntmps8
  go_wp2_with fail
  refine Calls.mono (HBE.out _) ?_
  rintro e w1 ⟨rfl, hb1⟩
  have HB1 : Hid (Below w.heap.size w w1) := hb1
  clear hb1
  go_upto_region 7 with fail
  obtain ⟨w2, hw2⟩ : ∃ w2, w1.alloc (.cells #[.int .i64 0, .int .i32 0, .int .u32 0, .slice none 0 0, .bool false] 70) = w2 := ⟨_, rfl⟩
  obtain ⟨w3, hw3⟩ : ∃ w3, w2.alloc (.cells #[.int .i64 0, .slice none 0 0, .bool false] 72) = w3 := ⟨_, rfl⟩
  obtain ⟨pb, hpb⟩ : ∃ pb, Value.pointer (some ⟨w1.heap.size, 0, none⟩) = pb := ⟨_, rfl⟩
  have hz2 : w2.heap.size = w1.heap.size + 1 := by rw [← hw2]; simp
  obtain ⟨d, hd⟩ : ∃ d, w1.heap.size + 1 = d := ⟨_, rfl⟩
  have H3 : Hid (∃ K, Oz w w3 K pb d) := by
    have hb2 : Below w1.heap.size w1 w2 := by rw [← hw2]; exact (Below.refl _ _).alloc (Nat.le_refl _) _
    have hb3 : Below w2.heap.size w2 w3 := by rw [← hw3]; exact (Below.refl _ _).alloc (Nat.le_refl _) _
    have hat : AtV w2 (fun j => j = w1.heap.size) Zv pb := by rw [← hw2, ← hpb]; exact zero_at w1
    refine ⟨fun j => j = w1.heap.size, ⟨serves.keep hat (Kp.of_below hb3 _), trans2 (trans2 HB1.out hb2) hb3, fun j hj => by have hj : j = w1.heap.size := hj; have := HB1.out.size; omega⟩, ?_, fun hk => by have hk : d = w1.heap.size := hk; omega⟩
    rw [← hw3, ← hd, ← hz2]
    exact heap_alloc_new _ _
  rw [hw2, hpb]
  try rw [hz2]
  rw [hd]
  rw [hw3]
  clear hw2 hw3 hpb hz2 hd
  obtain ⟨K, h3⟩ := H3.out
  have H4 : Hid (Oz w w3 K pb d) := h3
  clear h3 H3
  go_wp2_with fail
  go_loopw [7] (fun i wr => ∃ (q : Nat) (K : Nat → Prop), i = .int .i64 q ∧ q ≤ m ∧ Hid (Oz w wr K pb d)) (fun i _ => m - (intOf i).toNat)
  case atStart => exact ⟨0, K, rfl, Nat.zero_le _, H4⟩
  case round =>
    clear H4
    obtain ⟨q, Ks, rfl, hq, HW⟩ := hrel
    by_cases hlt : q < m ∧ q < 40
    · obtain ⟨hlt, h40⟩ := hlt
      have hqi : (q : Int) < (m : Int) := by omega
      have h40' : (q : Int) < 40 := by omega
      obtain ⟨y, hy⟩ : ∃ y, l[q]? = some y := ⟨l[q]'(by rw [HM.out]; exact hlt), List.getElem?_eq_getElem _⟩
      obtain ⟨b, o, rfl, _, hb, cs, hat, hr⟩ := RowAt.get HLS.out hy
      have HR : Hid (w.rangeAt b (o + q * 24) cs ∧ y.At cs ∧ b < w.heap.size) := ⟨hr, hat, hb⟩
      clear hy hb hat hr
      go_wp2_with fail
      refine wp_cut [29, 30, 31, 32, 33, 34, 35, 28, 36, 37, 8, 9] (fun vs w' => ∃ d8 xa xc, vs = [.pointer none, svV 0 (.slice none 0 0) false, .slice (some ⟨b, o, none⟩) m c, .int .i64 q, .pointer (some ⟨b, o + q * 24, none⟩), .agg cs.toArray, .tuple #[svV 0 (.slice xa 0 xc) false, .bool true], .tuple #[svV 0 (.slice xa 0 xc) false, .bool true], svV 0 (.slice xa 0 xc) false, .bool true, .pointer (some ⟨d8, 0, none⟩), .bool true] ∧ Hid (∃ K', Oz w w' K' pb d)) ?_ ?_
      · obtain ⟨w7, hw7⟩ : ∃ w7, wr.drew = w7 := ⟨_, rfl⟩
        have H7 : Hid (Oz w w7 Ks pb d) := by rw [← hw7]; exact HW.out.on (below_drew (Below.refl _ _))
        refine wp_region_held_drew (S := (fun w' => w'.rangeAt b (o + q * 24) cs ∧ w'.cell? ⟨d, 0, none⟩ = some (.int .i64 0) ∧ w'.cell? ⟨d, 1, none⟩ = some (.slice none 0 0) ∧ w'.cell? ⟨d, 2, none⟩ = some (.bool false))) (by kernel_rfl) (by rw [hw7]; exact H7.out.st HR.out.1 HR.out.2.2) (fun hHeld => ?_)
        rw [hw7] at hHeld ⊢
        clear hw7
        refine wpAnyH_take (i := 0) (v := ?_) rfl (by kernel_rfl) (by kernel_rfl) (by kernel_rfl) (fun _ _ _ h => h) ?_ hHeld ?_
        rotate_left
        · refine Or.inl ⟨by rfl, ?_⟩; intro w hSw; obtain ⟨hh0, hh1, hh2, hh3⟩ := hSw; clear hh0; go_simp <;> with_reducible rfl
        try simp only [List.getElem_toArray, List.getElem_cons_succ, List.getElem_cons_zero, Act.put, List.setIfInBounds_toArray, List.set_cons_zero, List.set_cons_succ]
        refine wpAnyH_take (i := 1) (v := ?_) rfl (by kernel_rfl) (by kernel_rfl) (by kernel_rfl) (fun _ _ _ h => h) ?_ hHeld ?_
        rotate_left
        · refine Or.inl ⟨by rfl, ?_⟩; intro w hSw; obtain ⟨hh0, hh1, hh2, hh3⟩ := hSw; clear hh0; go_simp <;> with_reducible rfl
        try simp only [List.getElem_toArray, List.getElem_cons_succ, List.getElem_cons_zero, Act.put, List.setIfInBounds_toArray, List.set_cons_zero, List.set_cons_succ]
        refine wpAnyH_take (i := 2) (v := ?_) rfl (by kernel_rfl) (by kernel_rfl) (by kernel_rfl) (fun _ _ _ h => h) ?_ hHeld ?_
        rotate_left
        · refine Or.inl ⟨by rfl, ?_⟩; intro w hSw; obtain ⟨hh0, hh1, hh2, hh3⟩ := hSw; clear hh0; go_simp <;> with_reducible rfl
        try simp only [List.getElem_toArray, List.getElem_cons_succ, List.getElem_cons_zero, Act.put, List.setIfInBounds_toArray, List.set_cons_zero, List.set_cons_succ]
        refine wpAnyH_take (i := 3) (v := ?_) rfl (by kernel_rfl) (by kernel_rfl) (by kernel_rfl) (fun _ _ _ h => h) ?_ hHeld ?_
        rotate_left
        · refine Or.inl ⟨by rfl, ?_⟩; intro w hSw; obtain ⟨hh0, hh1, hh2, hh3⟩ := hSw; clear hh0; go_simp <;> with_reducible rfl
        try simp only [List.getElem_toArray, List.getElem_cons_succ, List.getElem_cons_zero, Act.put, List.setIfInBounds_toArray, List.set_cons_zero, List.set_cons_succ]
        refine wpAnyH_take (i := 4) (v := ?_) rfl (by kernel_rfl) (by kernel_rfl) (by kernel_rfl) (fun _ _ _ h => h) ?_ hHeld ?_
        rotate_left
        · refine Or.inl ⟨by rfl, ?_⟩; intro w hSw; obtain ⟨hh0, hh1, hh2, hh3⟩ := hSw; clear hh0; go_simp <;> with_reducible rfl
        try simp only [List.getElem_toArray, List.getElem_cons_succ, List.getElem_cons_zero, Act.put, List.setIfInBounds_toArray, List.set_cons_zero, List.set_cons_succ]
        refine wpAnyH_take (i := 5) rfl (by kernel_rfl) (by kernel_rfl) (by kernel_rfl) (fun _ _ _ h => h) (yieldsIf_load_mid (by rfl) 49 _ rfl b (o + q * 24) (by rfl) cs _ (fun w hSw => hSw.1) Try.underlying49 rfl (by rw [HR.out.2.1.len]; exact Try.infoAct)) hHeld ?_
        try simp only [List.getElem_toArray, List.getElem_cons_succ, List.getElem_cons_zero, Act.put, List.setIfInBounds_toArray, List.set_cons_zero, List.set_cons_succ]
        refine wpAnyH_ready (rs := [6, 10]) (by kernel_rfl) (by simp) ?_
        refine AllReadyH.cons rfl (fun K hK => ?_) (AllReadyH.cons rfl (fun K hK => ?_) AllReadyH.nil)
        · refine step_callx (by rfl) 22 _ _ (by rfl) (fun _ _ => by rfl) [.pointer none, svV 0 (.slice none 0 0) false, .agg cs.toArray] (by rfl) (played_none H7.out HR.out.2.1) ?_
          rintro e w8 ⟨xa, xc, rfl, h8, hc8⟩
          have H8 : Hid (Oz w w8 Ks pb d) := h8
          have HC8 : Hid (Below _ _ w8) := hc8
          clear h8 hc8
          refine ⟨_, rfl, hK.out _ _ (H8.out.st HR.out.1 HR.out.2.2) (fun hHeld => ?_)⟩
          clear hK K
          try simp only [List.getElem_toArray, List.getElem_cons_succ, List.getElem_cons_zero, Act.put, List.setIfInBounds_toArray, List.set_cons_zero, List.set_cons_succ]
          refine wpAnyH_take (i := 7) (v := ?_) rfl (by kernel_rfl) (by kernel_rfl) (by kernel_rfl) (fun _ _ _ h => h) ?_ hHeld ?_
          rotate_left
          · refine Or.inl ⟨by rfl, ?_⟩; intro w hSw; obtain ⟨hh0, hh1, hh2, hh3⟩ := hSw; clear hh0; go_simp <;> with_reducible rfl
          try simp only [List.getElem_toArray, List.getElem_cons_succ, List.getElem_cons_zero, Act.put, List.setIfInBounds_toArray, List.set_cons_zero, List.set_cons_succ]
          refine wpAnyH_take (i := 8) (v := ?_) rfl (by kernel_rfl) (by kernel_rfl) (by kernel_rfl) (fun _ _ _ h => h) ?_ hHeld ?_
          rotate_left
          · refine Or.inl ⟨by rfl, ?_⟩; intro w hSw; obtain ⟨hh0, hh1, hh2, hh3⟩ := hSw; clear hh0; go_simp <;> with_reducible rfl
          try simp only [List.getElem_toArray, List.getElem_cons_succ, List.getElem_cons_zero, Act.put, List.setIfInBounds_toArray, List.set_cons_zero, List.set_cons_succ]
          refine wpAnyH_take (i := 9) (v := ?_) rfl (by kernel_rfl) (by kernel_rfl) (by kernel_rfl) (fun _ _ _ h => h) ?_ hHeld ?_
          rotate_left
          · refine Or.inl ⟨by rfl, ?_⟩; intro w hSw; obtain ⟨hh0, hh1, hh2, hh3⟩ := hSw; clear hh0; go_simp <;> with_reducible rfl
          try simp only [List.getElem_toArray, List.getElem_cons_succ, List.getElem_cons_zero, Act.put, List.setIfInBounds_toArray, List.set_cons_zero, List.set_cons_succ]
          refine wpAnyH_ready (rs := [10]) (by kernel_rfl) (by simp) ?_
          refine AllReadyH.cons rfl (fun K hK => ?_) AllReadyH.nil
          go_simp
          have H9 : Hid (Oz w (w8.alloc (.cells #[.int .i64 0, .slice none 0 0, .bool false] 72)) Ks pb d) := H8.out.on ((Below.refl _ _).alloc (Nat.le_refl _) _)
          refine hK.out _ _ (H9.out.st HR.out.1 HR.out.2.2) (fun hHeld => ?_)
          clear hK K
          try simp only [List.getElem_toArray, List.getElem_cons_succ, List.getElem_cons_zero, Act.put, List.setIfInBounds_toArray, List.set_cons_zero, List.set_cons_succ]
          obtain ⟨w9, hw9⟩ : ∃ w9, w8.alloc (.cells #[.int .i64 0, .slice none 0 0, .bool false] 72) = w9 := ⟨_, rfl⟩
          have hx9 : w9.heap[w8.heap.size]? = some (.cells #[.int .i64 0, .slice none 0 0, .bool false] 72 (0, 0)) := by rw [← hw9]; exact heap_alloc_new _ _
          rw [hw9] at H9 hHeld ⊢
          obtain ⟨d8, hd8⟩ : ∃ d8, w8.heap.size = d8 := ⟨_, rfl⟩
          have hne : d8 ≠ d ∧ ¬ Ks d8 ∧ w.heap.size ≤ d8 := ⟨by have := lt_of_blk H8.out.dx; omega, fun hk => by have := serves.lt H8.out.nw.at' d8 hk; omega, by have := H8.out.nw.below.size; omega⟩
          rw [hd8] at hx9 ⊢
          clear hw9 hd8
          refine wpAnyH_ready (rs := [11]) (by kernel_rfl) (by simp) ?_
          refine AllReadyH.cons rfl (fun K hK => ?_) AllReadyH.nil
          obtain ⟨s0, s1, s2⟩ := cells_3 hx9
          have fs : ∀ o, w9.frozen? ⟨d8, o, none⟩ = false := free_of hx9
          go_simp
          have H10 : Hid (Oz w (put_3 w9 d8 (.int .i64 0) (.slice xa 0 xc) (.bool false)) Ks pb d) := oz_put H9.out hne
          refine hK.out _ _ (H10.out.st HR.out.1 HR.out.2.2) (fun hHeld => ?_)
          clear hK K s0 s1 s2 fs
          try simp only [List.getElem_toArray, List.getElem_cons_succ, List.getElem_cons_zero, Act.put, List.setIfInBounds_toArray, List.set_cons_zero, List.set_cons_succ]
          refine wpAnyH_ready (rs := [12]) (by kernel_rfl) (by simp) ?_
          refine AllReadyH.cons rfl (fun K hK => ?_) AllReadyH.nil
          go_simp
          refine hK.out _ _ hHeld (fun hHeld => ?_)
          clear hK K
          try simp only [List.getElem_toArray, List.getElem_cons_succ, List.getElem_cons_zero, Act.put, List.setIfInBounds_toArray, List.set_cons_zero, List.set_cons_succ]
          refine wpAnyH_done (by kernel_rfl) ?_ _
          exact ⟨[.pointer none, svV 0 (.slice none 0 0) false, .slice (some ⟨b, o, none⟩) m c, .int .i64 q, .pointer (some ⟨b, o + q * 24, none⟩), .agg cs.toArray, .tuple #[svV 0 (.slice xa 0 xc) false, .bool true], .tuple #[svV 0 (.slice xa 0 xc) false, .bool true], svV 0 (.slice xa 0 xc) false, .bool true, .pointer (some ⟨d8, 0, none⟩), .bool true], ⟨d8, xa, xc, rfl, ⟨_, H10.out⟩⟩, by simp [putsL, Act.put]⟩
        · go_simp
          have H9 : Hid (Oz w (w7.alloc (.cells #[.int .i64 0, .slice none 0 0, .bool false] 72)) Ks pb d) := H7.out.on ((Below.refl _ _).alloc (Nat.le_refl _) _)
          refine hK.out _ _ (H9.out.st HR.out.1 HR.out.2.2) (fun hHeld => ?_)
          clear hK K
          try simp only [List.getElem_toArray, List.getElem_cons_succ, List.getElem_cons_zero, Act.put, List.setIfInBounds_toArray, List.set_cons_zero, List.set_cons_succ]
          obtain ⟨w6, hw6⟩ : ∃ w6, w7.alloc (.cells #[.int .i64 0, .slice none 0 0, .bool false] 72) = w6 := ⟨_, rfl⟩
          have hx6 : w6.heap[w7.heap.size]? = some (.cells #[.int .i64 0, .slice none 0 0, .bool false] 72 (0, 0)) := by rw [← hw6]; exact heap_alloc_new _ _
          rw [hw6] at H9 hHeld ⊢
          obtain ⟨d8, hd8⟩ : ∃ d8, w7.heap.size = d8 := ⟨_, rfl⟩
          have HNE : Hid (d8 ≠ d ∧ ¬ Ks d8 ∧ w.heap.size ≤ d8) := ⟨by have := lt_of_blk H7.out.dx; omega, fun hk => by have := serves.lt H7.out.nw.at' d8 hk; omega, by have := H7.out.nw.below.size; omega⟩
          rw [hd8] at hx6 ⊢
          have HX6 : Hid (w6.heap[d8]? = some (.cells #[.int .i64 0, .slice none 0 0, .bool false] 72 (0, 0))) := hx6
          clear hw6 hd8 hx6
          refine wpAnyH_ready (rs := [6]) (by kernel_rfl) (by simp) ?_
          refine AllReadyH.cons rfl (fun K hK => ?_) AllReadyH.nil
          refine step_callx (by rfl) 22 _ _ (by rfl) (fun _ _ => by rfl) [.pointer none, svV 0 (.slice none 0 0) false, .agg cs.toArray] (by rfl) (played_none H9.out HR.out.2.1) ?_
          rintro e w8 ⟨xa, xc, rfl, h8, hc8⟩
          have H8 : Hid (Oz w w8 Ks pb d) := h8
          have HC8 : Hid (Below _ _ w8) := hc8
          clear h8 hc8
          refine ⟨_, rfl, hK.out _ _ (H8.out.st HR.out.1 HR.out.2.2) (fun hHeld => ?_)⟩
          clear hK K
          try simp only [List.getElem_toArray, List.getElem_cons_succ, List.getElem_cons_zero, Act.put, List.setIfInBounds_toArray, List.set_cons_zero, List.set_cons_succ]
          have hx9 : w8.heap[d8]? = some (.cells #[.int .i64 0, .slice none 0 0, .bool false] 72 (0, 0)) := by rw [HC8.out.block d8 (lt_of_blk HX6.out)]; exact HX6.out
          have hne : d8 ≠ d ∧ ¬ Ks d8 ∧ w.heap.size ≤ d8 := ⟨HNE.out.1, HNE.out.2.1, HNE.out.2.2⟩
          refine wpAnyH_take (i := 7) (v := ?_) rfl (by kernel_rfl) (by kernel_rfl) (by kernel_rfl) (fun _ _ _ h => h) ?_ hHeld ?_
          rotate_left
          · refine Or.inl ⟨by rfl, ?_⟩; intro w hSw; obtain ⟨hh0, hh1, hh2, hh3⟩ := hSw; clear hh0; go_simp <;> with_reducible rfl
          try simp only [List.getElem_toArray, List.getElem_cons_succ, List.getElem_cons_zero, Act.put, List.setIfInBounds_toArray, List.set_cons_zero, List.set_cons_succ]
          refine wpAnyH_take (i := 8) (v := ?_) rfl (by kernel_rfl) (by kernel_rfl) (by kernel_rfl) (fun _ _ _ h => h) ?_ hHeld ?_
          rotate_left
          · refine Or.inl ⟨by rfl, ?_⟩; intro w hSw; obtain ⟨hh0, hh1, hh2, hh3⟩ := hSw; clear hh0; go_simp <;> with_reducible rfl
          try simp only [List.getElem_toArray, List.getElem_cons_succ, List.getElem_cons_zero, Act.put, List.setIfInBounds_toArray, List.set_cons_zero, List.set_cons_succ]
          refine wpAnyH_take (i := 9) (v := ?_) rfl (by kernel_rfl) (by kernel_rfl) (by kernel_rfl) (fun _ _ _ h => h) ?_ hHeld ?_
          rotate_left
          · refine Or.inl ⟨by rfl, ?_⟩; intro w hSw; obtain ⟨hh0, hh1, hh2, hh3⟩ := hSw; clear hh0; go_simp <;> with_reducible rfl
          try simp only [List.getElem_toArray, List.getElem_cons_succ, List.getElem_cons_zero, Act.put, List.setIfInBounds_toArray, List.set_cons_zero, List.set_cons_succ]
          refine wpAnyH_ready (rs := [11]) (by kernel_rfl) (by simp) ?_
          refine AllReadyH.cons rfl (fun K hK => ?_) AllReadyH.nil
          obtain ⟨s0, s1, s2⟩ := cells_3 hx9
          have fs : ∀ o, w8.frozen? ⟨d8, o, none⟩ = false := free_of hx9
          go_simp
          have H10 : Hid (Oz w (put_3 w8 d8 (.int .i64 0) (.slice xa 0 xc) (.bool false)) Ks pb d) := oz_put H8.out hne
          refine hK.out _ _ (H10.out.st HR.out.1 HR.out.2.2) (fun hHeld => ?_)
          clear hK K s0 s1 s2 fs
          try simp only [List.getElem_toArray, List.getElem_cons_succ, List.getElem_cons_zero, Act.put, List.setIfInBounds_toArray, List.set_cons_zero, List.set_cons_succ]
          refine wpAnyH_ready (rs := [12]) (by kernel_rfl) (by simp) ?_
          refine AllReadyH.cons rfl (fun K hK => ?_) AllReadyH.nil
          go_simp
          refine hK.out _ _ hHeld (fun hHeld => ?_)
          clear hK K
          try simp only [List.getElem_toArray, List.getElem_cons_succ, List.getElem_cons_zero, Act.put, List.setIfInBounds_toArray, List.set_cons_zero, List.set_cons_succ]
          refine wpAnyH_done (by kernel_rfl) ?_ _
          exact ⟨[.pointer none, svV 0 (.slice none 0 0) false, .slice (some ⟨b, o, none⟩) m c, .int .i64 q, .pointer (some ⟨b, o + q * 24, none⟩), .agg cs.toArray, .tuple #[svV 0 (.slice xa 0 xc) false, .bool true], .tuple #[svV 0 (.slice xa 0 xc) false, .bool true], svV 0 (.slice xa 0 xc) false, .bool true, .pointer (some ⟨d8, 0, none⟩), .bool true], ⟨d8, xa, xc, rfl, ⟨_, H10.out⟩⟩, by simp [putsL, Act.put]⟩
      rintro vs w20 ⟨d8, xa, xc, rfl, H20⟩
      obtain ⟨K2, h20⟩ := H20.out
      clear H20
      have H20 : Hid (Oz w w20 K2 pb d) := h20
      clear h20
      simp only [putsL]
      go_upto_region 11 with fail
      refine wp_cut [39, 40, 41, 42, 43, 44, 45, 38, 46, 47, 10, 11] (fun vs w' => ∃ d8 xa xc, vs = [pb, svV 0 (.slice none 0 0) false, .slice (some ⟨b, o, none⟩) m c, .int .i64 q, .pointer (some ⟨b, o + q * 24, none⟩), .agg cs.toArray, .tuple #[svV 0 (.slice xa 0 xc) false, .bool true], .tuple #[svV 0 (.slice xa 0 xc) false, .bool true], svV 0 (.slice xa 0 xc) false, .bool true, .pointer (some ⟨d8, 0, none⟩), .bool true] ∧ Hid (∃ K', Oz w w' K' pb d)) ?_ ?_
      · obtain ⟨w7, hw7⟩ : ∃ w7, w20.drew = w7 := ⟨_, rfl⟩
        have H7 : Hid (Oz w w7 K2 pb d) := by rw [← hw7]; exact H20.out.on (below_drew (Below.refl _ _))
        refine wp_region_held_drew (S := (fun w' => w'.rangeAt b (o + q * 24) cs ∧ w'.cell? ⟨d, 0, none⟩ = some (.int .i64 0) ∧ w'.cell? ⟨d, 1, none⟩ = some (.slice none 0 0) ∧ w'.cell? ⟨d, 2, none⟩ = some (.bool false))) (by kernel_rfl) (by rw [hw7]; exact H7.out.st HR.out.1 HR.out.2.2) (fun hHeld => ?_)
        rw [hw7] at hHeld ⊢
        clear hw7
        refine wpAnyH_take (i := 0) (v := ?_) rfl (by kernel_rfl) (by kernel_rfl) (by kernel_rfl) (fun _ _ _ h => h) ?_ hHeld ?_
        rotate_left
        · refine Or.inl ⟨by rfl, ?_⟩; intro w hSw; obtain ⟨hh0, hh1, hh2, hh3⟩ := hSw; clear hh0; go_simp <;> with_reducible rfl
        try simp only [List.getElem_toArray, List.getElem_cons_succ, List.getElem_cons_zero, Act.put, List.setIfInBounds_toArray, List.set_cons_zero, List.set_cons_succ]
        refine wpAnyH_take (i := 1) (v := ?_) rfl (by kernel_rfl) (by kernel_rfl) (by kernel_rfl) (fun _ _ _ h => h) ?_ hHeld ?_
        rotate_left
        · refine Or.inl ⟨by rfl, ?_⟩; intro w hSw; obtain ⟨hh0, hh1, hh2, hh3⟩ := hSw; clear hh0; go_simp <;> with_reducible rfl
        try simp only [List.getElem_toArray, List.getElem_cons_succ, List.getElem_cons_zero, Act.put, List.setIfInBounds_toArray, List.set_cons_zero, List.set_cons_succ]
        refine wpAnyH_take (i := 2) (v := ?_) rfl (by kernel_rfl) (by kernel_rfl) (by kernel_rfl) (fun _ _ _ h => h) ?_ hHeld ?_
        rotate_left
        · refine Or.inl ⟨by rfl, ?_⟩; intro w hSw; obtain ⟨hh0, hh1, hh2, hh3⟩ := hSw; clear hh0; go_simp <;> with_reducible rfl
        try simp only [List.getElem_toArray, List.getElem_cons_succ, List.getElem_cons_zero, Act.put, List.setIfInBounds_toArray, List.set_cons_zero, List.set_cons_succ]
        refine wpAnyH_take (i := 3) (v := ?_) rfl (by kernel_rfl) (by kernel_rfl) (by kernel_rfl) (fun _ _ _ h => h) ?_ hHeld ?_
        rotate_left
        · refine Or.inl ⟨by rfl, ?_⟩; intro w hSw; obtain ⟨hh0, hh1, hh2, hh3⟩ := hSw; clear hh0; go_simp <;> with_reducible rfl
        try simp only [List.getElem_toArray, List.getElem_cons_succ, List.getElem_cons_zero, Act.put, List.setIfInBounds_toArray, List.set_cons_zero, List.set_cons_succ]
        refine wpAnyH_take (i := 4) (v := ?_) rfl (by kernel_rfl) (by kernel_rfl) (by kernel_rfl) (fun _ _ _ h => h) ?_ hHeld ?_
        rotate_left
        · refine Or.inl ⟨by rfl, ?_⟩; intro w hSw; obtain ⟨hh0, hh1, hh2, hh3⟩ := hSw; clear hh0; go_simp <;> with_reducible rfl
        try simp only [List.getElem_toArray, List.getElem_cons_succ, List.getElem_cons_zero, Act.put, List.setIfInBounds_toArray, List.set_cons_zero, List.set_cons_succ]
        refine wpAnyH_take (i := 5) rfl (by kernel_rfl) (by kernel_rfl) (by kernel_rfl) (fun _ _ _ h => h) (yieldsIf_load_mid (by rfl) 49 _ rfl b (o + q * 24) (by rfl) cs _ (fun w hSw => hSw.1) Try.underlying49 rfl (by rw [HR.out.2.1.len]; exact Try.infoAct)) hHeld ?_
        try simp only [List.getElem_toArray, List.getElem_cons_succ, List.getElem_cons_zero, Act.put, List.setIfInBounds_toArray, List.set_cons_zero, List.set_cons_succ]
        refine wpAnyH_ready (rs := [6, 10]) (by kernel_rfl) (by simp) ?_
        refine AllReadyH.cons rfl (fun K hK => ?_) (AllReadyH.cons rfl (fun K hK => ?_) AllReadyH.nil)
        · refine step_callx (by rfl) 22 _ _ (by rfl) (fun _ _ => by rfl) [pb, svV 0 (.slice none 0 0) false, .agg cs.toArray] (by rfl) (played_zero H7.out HR.out.2.1) ?_
          rintro e w8 ⟨xa, xc, rfl, h8, hc8⟩
          obtain ⟨K8, h8, hk8⟩ := h8
          have H8 : Hid (Oz w w8 K8 pb d) := h8
          have HK8 : Hid (∀ j, K8 j → K2 j ∨ _ ≤ j) := hk8
          have HC8 : Hid (Chg _ w8 K2) := hc8
          clear h8 hc8 hk8
          refine ⟨_, rfl, hK.out _ _ (H8.out.st HR.out.1 HR.out.2.2) (fun hHeld => ?_)⟩
          clear hK K
          try simp only [List.getElem_toArray, List.getElem_cons_succ, List.getElem_cons_zero, Act.put, List.setIfInBounds_toArray, List.set_cons_zero, List.set_cons_succ]
          refine wpAnyH_take (i := 7) (v := ?_) rfl (by kernel_rfl) (by kernel_rfl) (by kernel_rfl) (fun _ _ _ h => h) ?_ hHeld ?_
          rotate_left
          · refine Or.inl ⟨by rfl, ?_⟩; intro w hSw; obtain ⟨hh0, hh1, hh2, hh3⟩ := hSw; clear hh0; go_simp <;> with_reducible rfl
          try simp only [List.getElem_toArray, List.getElem_cons_succ, List.getElem_cons_zero, Act.put, List.setIfInBounds_toArray, List.set_cons_zero, List.set_cons_succ]
          refine wpAnyH_take (i := 8) (v := ?_) rfl (by kernel_rfl) (by kernel_rfl) (by kernel_rfl) (fun _ _ _ h => h) ?_ hHeld ?_
          rotate_left
          · refine Or.inl ⟨by rfl, ?_⟩; intro w hSw; obtain ⟨hh0, hh1, hh2, hh3⟩ := hSw; clear hh0; go_simp <;> with_reducible rfl
          try simp only [List.getElem_toArray, List.getElem_cons_succ, List.getElem_cons_zero, Act.put, List.setIfInBounds_toArray, List.set_cons_zero, List.set_cons_succ]
          refine wpAnyH_take (i := 9) (v := ?_) rfl (by kernel_rfl) (by kernel_rfl) (by kernel_rfl) (fun _ _ _ h => h) ?_ hHeld ?_
          rotate_left
          · refine Or.inl ⟨by rfl, ?_⟩; intro w hSw; obtain ⟨hh0, hh1, hh2, hh3⟩ := hSw; clear hh0; go_simp <;> with_reducible rfl
          try simp only [List.getElem_toArray, List.getElem_cons_succ, List.getElem_cons_zero, Act.put, List.setIfInBounds_toArray, List.set_cons_zero, List.set_cons_succ]
          refine wpAnyH_ready (rs := [10]) (by kernel_rfl) (by simp) ?_
          refine AllReadyH.cons rfl (fun K hK => ?_) AllReadyH.nil
          go_simp
          have H9 : Hid (Oz w (w8.alloc (.cells #[.int .i64 0, .slice none 0 0, .bool false] 72)) K8 pb d) := H8.out.on ((Below.refl _ _).alloc (Nat.le_refl _) _)
          refine hK.out _ _ (H9.out.st HR.out.1 HR.out.2.2) (fun hHeld => ?_)
          clear hK K
          try simp only [List.getElem_toArray, List.getElem_cons_succ, List.getElem_cons_zero, Act.put, List.setIfInBounds_toArray, List.set_cons_zero, List.set_cons_succ]
          obtain ⟨w9, hw9⟩ : ∃ w9, w8.alloc (.cells #[.int .i64 0, .slice none 0 0, .bool false] 72) = w9 := ⟨_, rfl⟩
          have hx9 : w9.heap[w8.heap.size]? = some (.cells #[.int .i64 0, .slice none 0 0, .bool false] 72 (0, 0)) := by rw [← hw9]; exact heap_alloc_new _ _
          rw [hw9] at H9 hHeld ⊢
          obtain ⟨d8, hd8⟩ : ∃ d8, w8.heap.size = d8 := ⟨_, rfl⟩
          have hne : d8 ≠ d ∧ ¬ K8 d8 ∧ w.heap.size ≤ d8 := ⟨by have := lt_of_blk H8.out.dx; omega, fun hk => by have := serves.lt H8.out.nw.at' d8 hk; omega, by have := H8.out.nw.below.size; omega⟩
          rw [hd8] at hx9 ⊢
          clear hw9 hd8
          refine wpAnyH_ready (rs := [11]) (by kernel_rfl) (by simp) ?_
          refine AllReadyH.cons rfl (fun K hK => ?_) AllReadyH.nil
          obtain ⟨s0, s1, s2⟩ := cells_3 hx9
          have fs : ∀ o, w9.frozen? ⟨d8, o, none⟩ = false := free_of hx9
          go_simp
          have H10 : Hid (Oz w (put_3 w9 d8 (.int .i64 0) (.slice xa 0 xc) (.bool false)) K8 pb d) := oz_put H9.out hne
          refine hK.out _ _ (H10.out.st HR.out.1 HR.out.2.2) (fun hHeld => ?_)
          clear hK K s0 s1 s2 fs
          try simp only [List.getElem_toArray, List.getElem_cons_succ, List.getElem_cons_zero, Act.put, List.setIfInBounds_toArray, List.set_cons_zero, List.set_cons_succ]
          refine wpAnyH_ready (rs := [12]) (by kernel_rfl) (by simp) ?_
          refine AllReadyH.cons rfl (fun K hK => ?_) AllReadyH.nil
          go_simp
          refine hK.out _ _ hHeld (fun hHeld => ?_)
          clear hK K
          try simp only [List.getElem_toArray, List.getElem_cons_succ, List.getElem_cons_zero, Act.put, List.setIfInBounds_toArray, List.set_cons_zero, List.set_cons_succ]
          refine wpAnyH_done (by kernel_rfl) ?_ _
          exact ⟨[pb, svV 0 (.slice none 0 0) false, .slice (some ⟨b, o, none⟩) m c, .int .i64 q, .pointer (some ⟨b, o + q * 24, none⟩), .agg cs.toArray, .tuple #[svV 0 (.slice xa 0 xc) false, .bool true], .tuple #[svV 0 (.slice xa 0 xc) false, .bool true], svV 0 (.slice xa 0 xc) false, .bool true, .pointer (some ⟨d8, 0, none⟩), .bool true], ⟨d8, xa, xc, rfl, ⟨_, H10.out⟩⟩, by simp [putsL, Act.put]⟩
        · go_simp
          have H9 : Hid (Oz w (w7.alloc (.cells #[.int .i64 0, .slice none 0 0, .bool false] 72)) K2 pb d) := H7.out.on ((Below.refl _ _).alloc (Nat.le_refl _) _)
          refine hK.out _ _ (H9.out.st HR.out.1 HR.out.2.2) (fun hHeld => ?_)
          clear hK K
          try simp only [List.getElem_toArray, List.getElem_cons_succ, List.getElem_cons_zero, Act.put, List.setIfInBounds_toArray, List.set_cons_zero, List.set_cons_succ]
          obtain ⟨w6, hw6⟩ : ∃ w6, w7.alloc (.cells #[.int .i64 0, .slice none 0 0, .bool false] 72) = w6 := ⟨_, rfl⟩
          have hx6 : w6.heap[w7.heap.size]? = some (.cells #[.int .i64 0, .slice none 0 0, .bool false] 72 (0, 0)) := by rw [← hw6]; exact heap_alloc_new _ _
          rw [hw6] at H9 hHeld ⊢
          obtain ⟨d8, hd8⟩ : ∃ d8, w7.heap.size = d8 := ⟨_, rfl⟩
          have HNE : Hid (d8 ≠ d ∧ ¬ K2 d8 ∧ w.heap.size ≤ d8) := ⟨by have := lt_of_blk H7.out.dx; omega, fun hk => by have := serves.lt H7.out.nw.at' d8 hk; omega, by have := H7.out.nw.below.size; omega⟩
          rw [hd8] at hx6 ⊢
          have HX6 : Hid (w6.heap[d8]? = some (.cells #[.int .i64 0, .slice none 0 0, .bool false] 72 (0, 0))) := hx6
          clear hw6 hd8 hx6
          refine wpAnyH_ready (rs := [6]) (by kernel_rfl) (by simp) ?_
          refine AllReadyH.cons rfl (fun K hK => ?_) AllReadyH.nil
          refine step_callx (by rfl) 22 _ _ (by rfl) (fun _ _ => by rfl) [pb, svV 0 (.slice none 0 0) false, .agg cs.toArray] (by rfl) (played_zero H9.out HR.out.2.1) ?_
          rintro e w8 ⟨xa, xc, rfl, h8, hc8⟩
          obtain ⟨K8, h8, hk8⟩ := h8
          have H8 : Hid (Oz w w8 K8 pb d) := h8
          have HK8 : Hid (∀ j, K8 j → K2 j ∨ _ ≤ j) := hk8
          have HC8 : Hid (Chg _ w8 K2) := hc8
          clear h8 hc8 hk8
          refine ⟨_, rfl, hK.out _ _ (H8.out.st HR.out.1 HR.out.2.2) (fun hHeld => ?_)⟩
          clear hK K
          try simp only [List.getElem_toArray, List.getElem_cons_succ, List.getElem_cons_zero, Act.put, List.setIfInBounds_toArray, List.set_cons_zero, List.set_cons_succ]
          have hx9 : w8.heap[d8]? = some (.cells #[.int .i64 0, .slice none 0 0, .bool false] 72 (0, 0)) := by rw [HC8.out.block d8 (lt_of_blk HX6.out) (by first | exact HNE.out.2.1 | exact fun h => h)]; exact HX6.out
          have hne : d8 ≠ d ∧ ¬ K8 d8 ∧ w.heap.size ≤ d8 := ⟨HNE.out.1, fun hk => (HK8.out d8 hk).elim HNE.out.2.1 (fun hh => by have := lt_of_blk HX6.out; omega), HNE.out.2.2⟩
          refine wpAnyH_take (i := 7) (v := ?_) rfl (by kernel_rfl) (by kernel_rfl) (by kernel_rfl) (fun _ _ _ h => h) ?_ hHeld ?_
          rotate_left
          · refine Or.inl ⟨by rfl, ?_⟩; intro w hSw; obtain ⟨hh0, hh1, hh2, hh3⟩ := hSw; clear hh0; go_simp <;> with_reducible rfl
          try simp only [List.getElem_toArray, List.getElem_cons_succ, List.getElem_cons_zero, Act.put, List.setIfInBounds_toArray, List.set_cons_zero, List.set_cons_succ]
          refine wpAnyH_take (i := 8) (v := ?_) rfl (by kernel_rfl) (by kernel_rfl) (by kernel_rfl) (fun _ _ _ h => h) ?_ hHeld ?_
          rotate_left
          · refine Or.inl ⟨by rfl, ?_⟩; intro w hSw; obtain ⟨hh0, hh1, hh2, hh3⟩ := hSw; clear hh0; go_simp <;> with_reducible rfl
          try simp only [List.getElem_toArray, List.getElem_cons_succ, List.getElem_cons_zero, Act.put, List.setIfInBounds_toArray, List.set_cons_zero, List.set_cons_succ]
          refine wpAnyH_take (i := 9) (v := ?_) rfl (by kernel_rfl) (by kernel_rfl) (by kernel_rfl) (fun _ _ _ h => h) ?_ hHeld ?_
          rotate_left
          · refine Or.inl ⟨by rfl, ?_⟩; intro w hSw; obtain ⟨hh0, hh1, hh2, hh3⟩ := hSw; clear hh0; go_simp <;> with_reducible rfl
          try simp only [List.getElem_toArray, List.getElem_cons_succ, List.getElem_cons_zero, Act.put, List.setIfInBounds_toArray, List.set_cons_zero, List.set_cons_succ]
          refine wpAnyH_ready (rs := [11]) (by kernel_rfl) (by simp) ?_
          refine AllReadyH.cons rfl (fun K hK => ?_) AllReadyH.nil
          obtain ⟨s0, s1, s2⟩ := cells_3 hx9
          have fs : ∀ o, w8.frozen? ⟨d8, o, none⟩ = false := free_of hx9
          go_simp
          have H10 : Hid (Oz w (put_3 w8 d8 (.int .i64 0) (.slice xa 0 xc) (.bool false)) K8 pb d) := oz_put H8.out hne
          refine hK.out _ _ (H10.out.st HR.out.1 HR.out.2.2) (fun hHeld => ?_)
          clear hK K s0 s1 s2 fs
          try simp only [List.getElem_toArray, List.getElem_cons_succ, List.getElem_cons_zero, Act.put, List.setIfInBounds_toArray, List.set_cons_zero, List.set_cons_succ]
          refine wpAnyH_ready (rs := [12]) (by kernel_rfl) (by simp) ?_
          refine AllReadyH.cons rfl (fun K hK => ?_) AllReadyH.nil
          go_simp
          refine hK.out _ _ hHeld (fun hHeld => ?_)
          clear hK K
          try simp only [List.getElem_toArray, List.getElem_cons_succ, List.getElem_cons_zero, Act.put, List.setIfInBounds_toArray, List.set_cons_zero, List.set_cons_succ]
          refine wpAnyH_done (by kernel_rfl) ?_ _
          exact ⟨[pb, svV 0 (.slice none 0 0) false, .slice (some ⟨b, o, none⟩) m c, .int .i64 q, .pointer (some ⟨b, o + q * 24, none⟩), .agg cs.toArray, .tuple #[svV 0 (.slice xa 0 xc) false, .bool true], .tuple #[svV 0 (.slice xa 0 xc) false, .bool true], svV 0 (.slice xa 0 xc) false, .bool true, .pointer (some ⟨d8, 0, none⟩), .bool true], ⟨d8, xa, xc, rfl, ⟨_, H10.out⟩⟩, by simp [putsL, Act.put]⟩
      rintro vs w30 ⟨d9, ya, yc, rfl, H30⟩
      obtain ⟨K3, h30⟩ := H30.out
      have H31 : Hid (Oz w w30 K3 pb d) := h30
      clear h30 H30
      simp only [putsL]
      go_wp2_with fail
      exact ⟨⟨q + 1, K3, by go_num, by omega, H31⟩, by simp [intOf]; omega⟩
    · have hexit : ((q : Int) < (m : Int) ∧ ¬ (q : Int) < 40) ∨ ¬ (q : Int) < (m : Int) := by omega
      obtain ⟨d0, d1, d2⟩ := cells_3 HW.out.dx
      clear hlt
      rcases hexit with ⟨h1', h2'⟩ | h1'
      all_goals (
        go_wp2_with fail
        refine Calls.mono (stands_any serves wr (fun _ => False) Zv (.pointer none) (.slice none 0 0) (fun _ => False) (nil_at wr) (RowAt.nil _ _ _ _) (fun _ _ h => h.elim)) ?_
        rintro e w8 ⟨rfl, he8⟩
        have hb8 : Below wr.heap.size wr w8 := by
          obtain ⟨K8, _, hc8, _⟩ := he8
          exact hc8.below (Nat.le_refl _) (fun _ _ h => h.elim)
        have H8 : Hid (Oz w w8 Ks pb d) := HW.out.on hb8
        obtain ⟨d0, d1, d2⟩ := cells_3 H8.out.dx
        clear he8 hb8 HW
        go_wp2_with fail
        refine Calls.mono (stands_any serves w8 Ks Zv pb (.slice none 0 0) (fun _ => False) H8.out.nw.at' (RowAt.nil _ _ _ _) (fun _ _ h => h.elim)) ?_
        rintro e w9 ⟨rfl, he9⟩
        obtain ⟨K9, h9, _⟩ := H8.out.call he9
        have H9 : Hid (Oz w w9 K9 pb d) := h9
        clear he9 h9
        go_wp2_with fail
        go_ret
        exact ⟨rfl, H9.out.nw.below⟩)
end Go.Proofs.Ytlbhnlpdijhmlaa
