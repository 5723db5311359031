/-
  note: checks of a note's fields.
-/
import Derived.Test.YtdjfeomdiljaeaaGreatDoorNtChk2
namespace Go.Proofs.YtdjfeomdiljaeaaGreatDoor
open Go.RowKit
set_option linter.unusedVariables false
set_option linter.unusedSimpArgs false

/-- A note in its block. -/
def NB (w : World) (b : Nat) (N : NoN) : Prop := w.heap[b]? = some (.cells N.cl.toArray 51 (0, 0))
theorem NB.cell {w : World} {b i : Nat} {N : NoN} {v : Value} (h : NB w b N) (hv : N.cl[i]? = some v) : w.cell? ⟨b, i, none⟩ = some v := by
  unfold NB at h
  unfold World.cell?
  rw [h]
  simp only [List.getElem?_toArray]
  exact hv
def WnOk : WaN → Prop := fun ⟨i, p, k, f⟩ => (1 ≤ i ∧ i ≤ 2147483647) ∧ (p.toList = [] ∧ k = 0 ∧ f = 0)
theorem Wn_ck (x : WaN) (w : World) : Calls Tryz.prog 210 #[x.val] w (CK (WnOk x) w) := by
  obtain ⟨i, p, k, f⟩ := x
  exact Wn_core i p k f w
set_option maxHeartbeats 1600000 in
theorem noShot_any (st : Int) (p : ByteArray) (k : Int) (na : Option Addr) (nc n : Nat) (w : World) :
    Calls Tryz.prog 265 #[.agg #[.int .i64 st, .string p, .int .i64 k, .slice na n nc]] w fun e w' => e = .returned (.bool (decide (st = 0) && (decide (p.size = 0) && (decide (k = 0) && decide (n = 0))))) ∧ Below w.heap.size w w' := by
  have hb := heap_alloc_new w (.cells #[.int .i64 st, .string p, .int .i64 k, .slice na n nc] 134)
  obtain ⟨c0, c1, c2, c3⟩ := cells_4N hb
  clear hb
  have he := emp_iff p
  go_enter Tryz.func265, Tryz.ntmps265
  by_cases h1 : st = 0
  · by_cases h2 : p.size = 0
    · have h2' : p.toList.isEmpty = true := by rw [he]; simpa using h2
      by_cases h3 : k = 0
      · go_wp2_with fail
        go_ret
        exact ⟨by
          have hn : ((n : Int) == 0) = decide (n = 0) := by
            by_cases h4 : n = 0
            · rw [h4]; rfl
            · rw [decide_eq_false h4]
              exact beq_false_of_ne (by omega)
          simp [h1, h2, h3, hn], (Below.refl _ _).alloc (Nat.le_refl _) _⟩
      · go_wp2_with fail
        go_ret
        exact ⟨by simp [h3], (Below.refl _ _).alloc (Nat.le_refl _) _⟩
    · have h2' : p.toList.isEmpty = false := by rw [he]; simpa using h2
      go_wp2_with fail
      go_ret
      exact ⟨by simp [h2], (Below.refl _ _).alloc (Nat.le_refl _) _⟩
  · go_wp2_with fail
    go_ret
    exact ⟨by simp [h1], (Below.refl _ _).alloc (Nat.le_refl _) _⟩
set_option maxHeartbeats 3200000 in
theorem Pn_core (i : Int) (st : Int) (p : ByteArray) (k : Int) (nodesA : Option Addr) (nodesC : Nat) (nodes : List SeN) (w : World) : Calls Tryz.prog 220 #[.agg #[.int .i64 i, .int .i64 st, .string p, .int .i64 k, .slice nodesA nodes.length nodesC]] w (CK ((1 ≤ i ∧ i ≤ 2147483647) ∧ (st = 0 ∧ p.size = 0 ∧ k = 0 ∧ nodes.length = 0)) w) := by
  obtain ⟨ok, hok⟩ : ∃ ok : Prop, ((1 ≤ i ∧ i ≤ 2147483647) ∧ (st = 0 ∧ p.size = 0 ∧ k = 0 ∧ nodes.length = 0) : Prop) = ok := ⟨_, rfl⟩
  have HOK : Hid (ok = ((1 ≤ i ∧ i ≤ 2147483647) ∧ (st = 0 ∧ p.size = 0 ∧ k = 0 ∧ nodes.length = 0))) := hok.symm
  rw [hok]
  clear hok
  obtain ⟨w0, hw0⟩ : ∃ w0, w.alloc (.cells #[.int .i64 i, .int .i64 st, .string p, .int .i64 k, .slice nodesA nodes.length nodesC] 136) = w0 := ⟨_, rfl⟩
  have HB0 : Hid (Below w.heap.size w w0) := by rw [← hw0]; exact (Below.refl _ _).alloc (Nat.le_refl _) _
  have HE0 : Hid (w0.heap[w.heap.size]? = some (.cells #[.int .i64 i, .int .i64 st, .string p, .int .i64 k, .slice nodesA nodes.length nodesC] 136 (0, 0))) := by show _ = _; rw [← hw0]; exact heap_alloc_new _ _
  have HW : Hid (w.alloc (.cells #[.int .i64 i, .int .i64 st, .string p, .int .i64 k, .slice nodesA nodes.length nodesC] 136) = w0) := hw0
  clear hw0
  go_enter Tryz.func220, Tryz.ntmps220
  go_upto_region 1 with fail
  rw [HW.out]
  obtain ⟨c0, c1, c2, c3, c4⟩ := cells_5N HE0.out
  go_wp2_with (first
    | (go_at_call 265; refine Calls.mono (noShot_any st p k nodesA nodesC nodes.length _) ?_; rintro e ws ⟨rfl, hb⟩
       have HBs : Hid (Below w.heap.size w ws) := xtransN HB1.out hb
       clear hb c0 c1 c2 c3 c4)
    | (have hq := HB1; clear hq; go_at_call 70; refine Calls.mono (must_ckB _ _) ?_; rintro e w2 ⟨⟨rfl, h⟩ | ⟨rfl, h⟩, hb⟩
       rotate_left
       · exact ⟨rfl, .inr ⟨rfl, by rw [HOK.out]; exact fun g => by have g1 := g.2; first | exact h rfl | exact h trivial | exact h.elim | exact g1.elim | exact h (by simpa using g1) | exact h (by simp_all)⟩, xtransN HBs.out hb⟩
       have H1 : Hid ((st = 0 ∧ p.size = 0 ∧ k = 0 ∧ nodes.length = 0)) := (by show ((st = 0 ∧ p.size = 0 ∧ k = 0 ∧ nodes.length = 0)); first | exact trivial | exact absurd h (by decide) | exact h.elim | simpa using h | simp_all)
       have HB2 : Hid (Below w.heap.size w w2) := xtransN HBs.out hb
       clear h hb)
    | (have hq := HB0; clear hq; go_at_call 67; refine Calls.mono (number_ck _ _ _) ?_; rintro e w1 ⟨⟨rfl, h⟩ | ⟨rfl, h⟩, hb⟩
       rotate_left
       · exact ⟨rfl, .inr ⟨rfl, by rw [HOK.out]; exact fun g => h (g.1)⟩, xtransN HB0.out hb⟩
       have H0 : Hid ((1 ≤ i ∧ i ≤ 2147483647)) := h
       have HB1 : Hid (Below w.heap.size w w1) := xtransN HB0.out hb
       have HE1 : Hid (w1.heap[w.heap.size]? = some (.cells #[.int .i64 i, .int .i64 st, .string p, .int .i64 k, .slice nodesA nodes.length nodesC] 136 (0, 0))) := kept_block (below_of (Below.refl _ _) hb) HE0.out
       clear h hb c0 c1 c2 c3 c4
       obtain ⟨c0, c1, c2, c3, c4⟩ := cells_5N HE1.out)
    | fail)
  all_goals exact bodyPost_end (results_none rfl _ _ _) rfl ⟨.inl ⟨rfl, by rw [HOK.out]; exact ⟨H0.out, H1.out⟩⟩, HB2.out⟩
def PnOk : PaN → Prop := fun ⟨i, st, p, k, nodesA, nodesC, nodes⟩ => (1 ≤ i ∧ i ≤ 2147483647) ∧ (st = 0 ∧ p.size = 0 ∧ k = 0 ∧ nodes.length = 0)
theorem Pn_ck (x : PaN) (w : World) (hA : x.At w) : Calls Tryz.prog 220 #[x.val] w (CK (PnOk x) w) := by
  obtain ⟨i, st, p, k, nodesA, nodesC, nodes⟩ := x
  exact Pn_core i st p k nodesA nodesC nodes w
set_option maxHeartbeats 3200000 in
theorem View_ck (b : Nat) (N : NoN) (w : World) (hN : NB w b N) (hA : N.At w) (hg : Ground w) : Calls Tryz.prog 127 #[.pointer (some ⟨b, 0, none⟩)] w (CK (nums [N.num, N.pri, N.bak]) w) := by
  obtain ⟨ok, hok⟩ : ∃ ok : Prop, (nums [N.num, N.pri, N.bak] : Prop) = ok := ⟨_, rfl⟩
  have HOK : Hid (ok = (nums [N.num, N.pri, N.bak])) := hok.symm
  rw [hok]
  clear hok
  have HG : Hid (Ground w) := hg
  have HA : Hid (N.At w) := hA
  have HE0 : Hid (NB w b N) := hN
  have HB0 : Hid (Below w.heap.size w w) := Below.refl _ _
  clear hg hA hN
  go_enter Tryz.func127, Tryz.ntmps127
  have c0 := HE0.out.cell (i := 1) (v := .int .i64 N.num) rfl
  have c1 := HE0.out.cell (i := 2) (v := .int .i64 N.pri) rfl
  have c2 := HE0.out.cell (i := 3) (v := .int .i64 N.bak) rfl
  go_wp2_with fail
  go_region_held2 (fun V => V.cell? ⟨b, 1, none⟩ = some (.int .i64 N.num) ∧ V.cell? ⟨b, 2, none⟩ = some (.int .i64 N.pri) ∧ V.cell? ⟨b, 3, none⟩ = some (.int .i64 N.bak))
    (first
    | exact ⟨c0, c1, c2⟩
    | go_keep)
    (first
    | (go_at_call 105; refine Calls.mono (numbers_ck _ _ [N.num, N.pri, N.bak] _ (rowC_new _ [N.num, N.pri, N.bak] (show 3 ≤ maxLen by decide))) ?_; rintro e w1 ⟨⟨rfl, h⟩ | ⟨rfl, h⟩, hb⟩
       rotate_left
       · exact ⟨rfl, .inr ⟨rfl, by rw [HOK.out]; exact fun g => h g⟩, below_of (ext_alloc (below_drew (Below.refl _ _)) _) hb⟩
       have H0 : Hid (nums [N.num, N.pri, N.bak]) := h
       have HB1 : Hid (Below w.heap.size w w1) := below_of (ext_alloc (below_drew (Below.refl _ _)) _) hb
       have HE1 : Hid (NB w1 b N) := kept_block HB1.out HE0.out
       clear h hb c0 c1 c2
       have c0 := HE1.out.cell (i := 1) (v := .int .i64 N.num) rfl
       have c1 := HE1.out.cell (i := 2) (v := .int .i64 N.pri) rfl
       have c2 := HE1.out.cell (i := 3) (v := .int .i64 N.bak) rfl)
    | fail)
  go_wp2_with fail
  all_goals exact bodyPost_end (results_none rfl _ _ _) rfl ⟨.inl ⟨rfl, by rw [HOK.out]; exact H0.out⟩, HB1.out⟩
set_option maxHeartbeats 3200000 in
theorem State_ck (b : Nat) (N : NoN) (w : World) (hN : NB w b N) (hA : N.At w) (hg : Ground w) : Calls Tryz.prog 137 #[.pointer (some ⟨b, 0, none⟩)] w (CK ((N.state.size : Int) ≤ 200000) w) := by
  obtain ⟨ok, hok⟩ : ∃ ok : Prop, ((N.state.size : Int) ≤ 200000 : Prop) = ok := ⟨_, rfl⟩
  have HOK : Hid (ok = ((N.state.size : Int) ≤ 200000)) := hok.symm
  rw [hok]
  clear hok
  have HG : Hid (Ground w) := hg
  have HA : Hid (N.At w) := hA
  have HE0 : Hid (NB w b N) := hN
  have HB0 : Hid (Below w.heap.size w w) := Below.refl _ _
  clear hg hA hN
  go_enter Tryz.func137, Tryz.ntmps137
  have c0 := HE0.out.cell (i := 20) (v := .string N.state) rfl
  go_wp2_with (first
    | (have hq := HB0; clear hq; go_at_call 106; refine Calls.mono (text_ck _ _ _) ?_; rintro e w1 ⟨⟨rfl, h⟩ | ⟨rfl, h⟩, hb⟩
       rotate_left
       · exact ⟨rfl, .inr ⟨rfl, by rw [HOK.out]; exact fun g => h (g)⟩, xtransN HB0.out hb⟩
       have H0 : Hid ((N.state.size : Int) ≤ 200000) := h
       have HB1 : Hid (Below w.heap.size w w1) := xtransN HB0.out hb
       have HE1 : Hid (NB w1 b N) := kept_block HB1.out HE0.out
       clear h hb c0
       have c0 := HE1.out.cell (i := 20) (v := .string N.state) rfl)
    | fail)
  all_goals exact bodyPost_end (results_none rfl _ _ _) rfl ⟨.inl ⟨rfl, by rw [HOK.out]; exact H0.out⟩, HB1.out⟩
set_option maxHeartbeats 3200000 in
theorem Ops_ck (b : Nat) (N : NoN) (w : World) (hN : NB w b N) (hA : N.At w) (hg : Ground w) : Calls Tryz.prog 140 #[.pointer (some ⟨b, 0, none⟩)] w (CK ((((0 : Int) ≤ (N.ops.length : Int) ∧ (N.ops.length : Int) ≤ 4) ∧ ∀ x ∈ N.ops, OpN.Ok x)) w) := by
  obtain ⟨ok, hok⟩ : ∃ ok : Prop, ((((0 : Int) ≤ (N.ops.length : Int) ∧ (N.ops.length : Int) ≤ 4) ∧ ∀ x ∈ N.ops, OpN.Ok x) : Prop) = ok := ⟨_, rfl⟩
  have HOK : Hid (ok = ((((0 : Int) ≤ (N.ops.length : Int) ∧ (N.ops.length : Int) ≤ 4) ∧ ∀ x ∈ N.ops, OpN.Ok x))) := hok.symm
  rw [hok]
  clear hok
  have HG : Hid (Ground w) := hg
  have HA : Hid (N.At w) := hA
  have HE0 : Hid (NB w b N) := hN
  have HB0 : Hid (Below w.heap.size w w) := Below.refl _ _
  clear hg hA hN
  go_enter Tryz.func140, Tryz.ntmps140
  have c0 := HE0.out.cell (i := 11) (v := .slice N.opsA N.ops.length N.opsC) rfl
  go_wp2_with (first
    | (have hq := HB0; clear hq; go_at_call 68; refine Calls.mono (listOp 0 4 N.opsA N.opsC N.ops OpN.Ok _ (fun x hx W hb => Op_ck x W) (HA.out.ops.below HB0.out)) ?_; rintro e w1 ⟨⟨rfl, h⟩ | ⟨rfl, h⟩, hb⟩
       rotate_left
       · exact ⟨rfl, .inr ⟨rfl, by rw [HOK.out]; exact fun g => h (g)⟩, xtransN HB0.out hb⟩
       have H0 : Hid ((((0 : Int) ≤ (N.ops.length : Int) ∧ (N.ops.length : Int) ≤ 4) ∧ ∀ x ∈ N.ops, OpN.Ok x)) := h
       have HB1 : Hid (Below w.heap.size w w1) := xtransN HB0.out hb
       have HE1 : Hid (NB w1 b N) := kept_block HB1.out HE0.out
       clear h hb c0
       have c0 := HE1.out.cell (i := 11) (v := .slice N.opsA N.ops.length N.opsC) rfl)
    | fail)
  all_goals exact bodyPost_end (results_none rfl _ _ _) rfl ⟨.inl ⟨rfl, by rw [HOK.out]; exact H0.out⟩, HB1.out⟩
set_option maxHeartbeats 3200000 in
theorem Ents_ck (b : Nat) (N : NoN) (w : World) (hN : NB w b N) (hA : N.At w) (hg : Ground w) : Calls Tryz.prog 143 #[.pointer (some ⟨b, 0, none⟩)] w (CK ((((0 : Int) ≤ (N.ents.length : Int) ∧ (N.ents.length : Int) ≤ 16) ∧ ∀ x ∈ N.ents, EnN.Ok x)) w) := by
  obtain ⟨ok, hok⟩ : ∃ ok : Prop, ((((0 : Int) ≤ (N.ents.length : Int) ∧ (N.ents.length : Int) ≤ 16) ∧ ∀ x ∈ N.ents, EnN.Ok x) : Prop) = ok := ⟨_, rfl⟩
  have HOK : Hid (ok = ((((0 : Int) ≤ (N.ents.length : Int) ∧ (N.ents.length : Int) ≤ 16) ∧ ∀ x ∈ N.ents, EnN.Ok x))) := hok.symm
  rw [hok]
  clear hok
  have HG : Hid (Ground w) := hg
  have HA : Hid (N.At w) := hA
  have HE0 : Hid (NB w b N) := hN
  have HB0 : Hid (Below w.heap.size w w) := Below.refl _ _
  clear hg hA hN
  go_enter Tryz.func143, Tryz.ntmps143
  have c0 := HE0.out.cell (i := 12) (v := .slice N.entsA N.ents.length N.entsC) rfl
  go_wp2_with (first
    | (have hq := HB0; clear hq; go_at_call 202; refine Calls.mono (listEn 0 16 N.entsA N.entsC N.ents EnN.Ok _ (fun x hx W hb => En_ck x W ((HA.out.entsS x hx).below (below_of HB0.out hb))) (HA.out.ents.below HB0.out)) ?_; rintro e w1 ⟨⟨rfl, h⟩ | ⟨rfl, h⟩, hb⟩
       rotate_left
       · exact ⟨rfl, .inr ⟨rfl, by rw [HOK.out]; exact fun g => h (g)⟩, xtransN HB0.out hb⟩
       have H0 : Hid ((((0 : Int) ≤ (N.ents.length : Int) ∧ (N.ents.length : Int) ≤ 16) ∧ ∀ x ∈ N.ents, EnN.Ok x)) := h
       have HB1 : Hid (Below w.heap.size w w1) := xtransN HB0.out hb
       have HE1 : Hid (NB w1 b N) := kept_block HB1.out HE0.out
       clear h hb c0
       have c0 := HE1.out.cell (i := 12) (v := .slice N.entsA N.ents.length N.entsC) rfl)
    | fail)
  all_goals exact bodyPost_end (results_none rfl _ _ _) rfl ⟨.inl ⟨rfl, by rw [HOK.out]; exact H0.out⟩, HB1.out⟩
set_option maxHeartbeats 3200000 in
theorem Was_ck5 (b : Nat) (N : NoN) (w : World) (hN : NB w b N) (hA : N.At w) (hg : Ground w) (hk : N.K = 5) : Calls Tryz.prog 146 #[.pointer (some ⟨b, 0, none⟩)] w (CK ((((0 : Int) ≤ (N.was.length : Int) ∧ (N.was.length : Int) ≤ 4) ∧ ∀ x ∈ N.was, WaN.Ok x)) w) := by
  obtain ⟨ok, hok⟩ : ∃ ok : Prop, ((((0 : Int) ≤ (N.was.length : Int) ∧ (N.was.length : Int) ≤ 4) ∧ ∀ x ∈ N.was, WaN.Ok x) : Prop) = ok := ⟨_, rfl⟩
  have HOK : Hid (ok = ((((0 : Int) ≤ (N.was.length : Int) ∧ (N.was.length : Int) ≤ 4) ∧ ∀ x ∈ N.was, WaN.Ok x))) := hok.symm
  rw [hok]
  clear hok
  have HG : Hid (Ground w) := hg
  have HA : Hid (N.At w) := hA
  have HE0 : Hid (NB w b N) := hN
  have HB0 : Hid (Below w.heap.size w w) := Below.refl _ _
  clear hg hA hN
  have HK : Hid (N.K = 5) := hk
  clear hk
  go_enter Tryz.func146, Tryz.ntmps146
  have c0 : w.cell? ⟨b, 0, none⟩ = some (.int .i64 5) := by have := HE0.out.cell (i := 0) rfl; rw [HK.out] at this; exact this
  have c1 := HE0.out.cell (i := 17) (v := .slice N.wasA N.was.length N.wasC) rfl
  go_wp2_with (first
    | (have hq := HB0; clear hq; go_at_call 208; refine Calls.mono (listWa 0 4 N.wasA N.wasC N.was WaN.Ok _ (fun x hx W hb => Wa_ck x W (HG.out.below (below_of HB0.out hb))) (HA.out.was.below HB0.out)) ?_; rintro e w1 ⟨⟨rfl, h⟩ | ⟨rfl, h⟩, hb⟩
       rotate_left
       · exact ⟨rfl, .inr ⟨rfl, by rw [HOK.out]; exact fun g => h (g)⟩, xtransN HB0.out hb⟩
       have H0 : Hid ((((0 : Int) ≤ (N.was.length : Int) ∧ (N.was.length : Int) ≤ 4) ∧ ∀ x ∈ N.was, WaN.Ok x)) := h
       have HB1 : Hid (Below w.heap.size w w1) := xtransN HB0.out hb
       have HE1 : Hid (NB w1 b N) := kept_block HB1.out HE0.out
       clear h hb c0 c1
       have c0 : w1.cell? ⟨b, 0, none⟩ = some (.int .i64 5) := by have := HE1.out.cell (i := 0) rfl; rw [HK.out] at this; exact this
       have c1 := HE1.out.cell (i := 17) (v := .slice N.wasA N.was.length N.wasC) rfl)
    | fail)
  all_goals exact bodyPost_end (results_none rfl _ _ _) rfl ⟨.inl ⟨rfl, by rw [HOK.out]; exact H0.out⟩, HB1.out⟩
set_option maxHeartbeats 3200000 in
theorem Was_ck6 (b : Nat) (N : NoN) (w : World) (hN : NB w b N) (hA : N.At w) (hg : Ground w) (hk : N.K = 6) : Calls Tryz.prog 146 #[.pointer (some ⟨b, 0, none⟩)] w (CK ((((1 : Int) ≤ (N.was.length : Int) ∧ (N.was.length : Int) ≤ 1) ∧ ∀ x ∈ N.was, WaN.Ok x)) w) := by
  obtain ⟨ok, hok⟩ : ∃ ok : Prop, ((((1 : Int) ≤ (N.was.length : Int) ∧ (N.was.length : Int) ≤ 1) ∧ ∀ x ∈ N.was, WaN.Ok x) : Prop) = ok := ⟨_, rfl⟩
  have HOK : Hid (ok = ((((1 : Int) ≤ (N.was.length : Int) ∧ (N.was.length : Int) ≤ 1) ∧ ∀ x ∈ N.was, WaN.Ok x))) := hok.symm
  rw [hok]
  clear hok
  have HG : Hid (Ground w) := hg
  have HA : Hid (N.At w) := hA
  have HE0 : Hid (NB w b N) := hN
  have HB0 : Hid (Below w.heap.size w w) := Below.refl _ _
  clear hg hA hN
  have HK : Hid (N.K = 6) := hk
  clear hk
  go_enter Tryz.func146, Tryz.ntmps146
  have c0 : w.cell? ⟨b, 0, none⟩ = some (.int .i64 6) := by have := HE0.out.cell (i := 0) rfl; rw [HK.out] at this; exact this
  have c1 := HE0.out.cell (i := 17) (v := .slice N.wasA N.was.length N.wasC) rfl
  go_wp2_with (first
    | (have hq := HB0; clear hq; go_at_call 208; refine Calls.mono (listWa 1 1 N.wasA N.wasC N.was WaN.Ok _ (fun x hx W hb => Wa_ck x W (HG.out.below (below_of HB0.out hb))) (HA.out.was.below HB0.out)) ?_; rintro e w1 ⟨⟨rfl, h⟩ | ⟨rfl, h⟩, hb⟩
       rotate_left
       · exact ⟨rfl, .inr ⟨rfl, by rw [HOK.out]; exact fun g => h (g)⟩, xtransN HB0.out hb⟩
       have H0 : Hid ((((1 : Int) ≤ (N.was.length : Int) ∧ (N.was.length : Int) ≤ 1) ∧ ∀ x ∈ N.was, WaN.Ok x)) := h
       have HB1 : Hid (Below w.heap.size w w1) := xtransN HB0.out hb
       have HE1 : Hid (NB w1 b N) := kept_block HB1.out HE0.out
       clear h hb c0 c1
       have c0 : w1.cell? ⟨b, 0, none⟩ = some (.int .i64 6) := by have := HE1.out.cell (i := 0) rfl; rw [HK.out] at this; exact this
       have c1 := HE1.out.cell (i := 17) (v := .slice N.wasA N.was.length N.wasC) rfl)
    | fail)
  all_goals exact bodyPost_end (results_none rfl _ _ _) rfl ⟨.inl ⟨rfl, by rw [HOK.out]; exact H0.out⟩, HB1.out⟩
set_option maxHeartbeats 3200000 in
theorem Was_ck14 (b : Nat) (N : NoN) (w : World) (hN : NB w b N) (hA : N.At w) (hg : Ground w) (hk : N.K = 14) : Calls Tryz.prog 146 #[.pointer (some ⟨b, 0, none⟩)] w (CK ((((0 : Int) ≤ (N.was.length : Int) ∧ (N.was.length : Int) ≤ 4) ∧ ∀ x ∈ N.was, WnOk x) ∧ Rise (N.was.map fun x => x.i)) w) := by
  obtain ⟨ok, hok⟩ : ∃ ok : Prop, ((((0 : Int) ≤ (N.was.length : Int) ∧ (N.was.length : Int) ≤ 4) ∧ ∀ x ∈ N.was, WnOk x) ∧ Rise (N.was.map fun x => x.i) : Prop) = ok := ⟨_, rfl⟩
  have HOK : Hid (ok = ((((0 : Int) ≤ (N.was.length : Int) ∧ (N.was.length : Int) ≤ 4) ∧ ∀ x ∈ N.was, WnOk x) ∧ Rise (N.was.map fun x => x.i))) := hok.symm
  rw [hok]
  clear hok
  have HG : Hid (Ground w) := hg
  have HA : Hid (N.At w) := hA
  have HE0 : Hid (NB w b N) := hN
  have HB0 : Hid (Below w.heap.size w w) := Below.refl _ _
  clear hg hA hN
  have HK : Hid (N.K = 14) := hk
  clear hk
  go_enter Tryz.func146, Tryz.ntmps146
  have c0 : w.cell? ⟨b, 0, none⟩ = some (.int .i64 14) := by have := HE0.out.cell (i := 0) rfl; rw [HK.out] at this; exact this
  have c1 := HE0.out.cell (i := 17) (v := .slice N.wasA N.was.length N.wasC) rfl
  go_wp2_with (first
    | (have hq := HB1; clear hq; go_at_call 211; refine Calls.mono (riseWa N.wasA N.wasC N.was _ (HA.out.was.below HB1.out)) ?_; rintro e w2 ⟨⟨rfl, h⟩ | ⟨rfl, h⟩, hb⟩
       rotate_left
       · exact ⟨rfl, .inr ⟨rfl, by rw [HOK.out]; exact fun g => h (g.2)⟩, xtransN HB1.out hb⟩
       have H1 : Hid (Rise (N.was.map fun x => x.i)) := h
       have HB2 : Hid (Below w.heap.size w w2) := xtransN HB1.out hb
       have HE2 : Hid (NB w2 b N) := kept_block HB2.out HE0.out
       clear h hb c0 c1
       have c0 : w2.cell? ⟨b, 0, none⟩ = some (.int .i64 14) := by have := HE2.out.cell (i := 0) rfl; rw [HK.out] at this; exact this
       have c1 := HE2.out.cell (i := 17) (v := .slice N.wasA N.was.length N.wasC) rfl)
    | (have hq := HB0; clear hq; go_at_call 208; refine Calls.mono (listWn 0 4 N.wasA N.wasC N.was WnOk _ (fun x hx W hb => Wn_ck x W) (HA.out.was.below HB0.out)) ?_; rintro e w1 ⟨⟨rfl, h⟩ | ⟨rfl, h⟩, hb⟩
       rotate_left
       · exact ⟨rfl, .inr ⟨rfl, by rw [HOK.out]; exact fun g => h (g.1)⟩, xtransN HB0.out hb⟩
       have H0 : Hid ((((0 : Int) ≤ (N.was.length : Int) ∧ (N.was.length : Int) ≤ 4) ∧ ∀ x ∈ N.was, WnOk x)) := h
       have HB1 : Hid (Below w.heap.size w w1) := xtransN HB0.out hb
       have HE1 : Hid (NB w1 b N) := kept_block HB1.out HE0.out
       clear h hb c0 c1
       have c0 : w1.cell? ⟨b, 0, none⟩ = some (.int .i64 14) := by have := HE1.out.cell (i := 0) rfl; rw [HK.out] at this; exact this
       have c1 := HE1.out.cell (i := 17) (v := .slice N.wasA N.was.length N.wasC) rfl)
    | fail)
  all_goals exact bodyPost_end (results_none rfl _ _ _) rfl ⟨.inl ⟨rfl, by rw [HOK.out]; exact ⟨H0.out, H1.out⟩⟩, HB2.out⟩
set_option maxHeartbeats 3200000 in
theorem Was_cke (b : Nat) (N : NoN) (w : World) (hN : NB w b N) (hA : N.At w) (hg : Ground w) (k1 : ¬ N.K = 5) (k2 : ¬ N.K = 6) (k3 : ¬ N.K = 14) : Calls Tryz.prog 146 #[.pointer (some ⟨b, 0, none⟩)] w (CK ((((1 : Int) ≤ (N.was.length : Int) ∧ (N.was.length : Int) ≤ 1) ∧ ∀ x ∈ N.was, WnOk x)) w) := by
  obtain ⟨ok, hok⟩ : ∃ ok : Prop, ((((1 : Int) ≤ (N.was.length : Int) ∧ (N.was.length : Int) ≤ 1) ∧ ∀ x ∈ N.was, WnOk x) : Prop) = ok := ⟨_, rfl⟩
  have HOK : Hid (ok = ((((1 : Int) ≤ (N.was.length : Int) ∧ (N.was.length : Int) ≤ 1) ∧ ∀ x ∈ N.was, WnOk x))) := hok.symm
  rw [hok]
  clear hok
  have HG : Hid (Ground w) := hg
  have HA : Hid (N.At w) := hA
  have HE0 : Hid (NB w b N) := hN
  have HB0 : Hid (Below w.heap.size w w) := Below.refl _ _
  clear hg hA hN
  go_enter Tryz.func146, Tryz.ntmps146
  have c0 := HE0.out.cell (i := 0) (v := .int .i64 N.K) rfl
  have c1 := HE0.out.cell (i := 17) (v := .slice N.wasA N.was.length N.wasC) rfl
  go_wp2_with (first
    | (have hq := HB0; clear hq; go_at_call 208; refine Calls.mono (listWn 1 1 N.wasA N.wasC N.was WnOk _ (fun x hx W hb => Wn_ck x W) (HA.out.was.below HB0.out)) ?_; rintro e w1 ⟨⟨rfl, h⟩ | ⟨rfl, h⟩, hb⟩
       rotate_left
       · exact ⟨rfl, .inr ⟨rfl, by rw [HOK.out]; exact fun g => h (g)⟩, xtransN HB0.out hb⟩
       have H0 : Hid ((((1 : Int) ≤ (N.was.length : Int) ∧ (N.was.length : Int) ≤ 1) ∧ ∀ x ∈ N.was, WnOk x)) := h
       have HB1 : Hid (Below w.heap.size w w1) := xtransN HB0.out hb
       have HE1 : Hid (NB w1 b N) := kept_block HB1.out HE0.out
       clear h hb c0 c1
       have c0 := HE1.out.cell (i := 0) (v := .int .i64 N.K) rfl
       have c1 := HE1.out.cell (i := 17) (v := .slice N.wasA N.was.length N.wasC) rfl)
    | fail)
  all_goals exact bodyPost_end (results_none rfl _ _ _) rfl ⟨.inl ⟨rfl, by rw [HOK.out]; exact H0.out⟩, HB1.out⟩
set_option maxHeartbeats 3200000 in
theorem Parts_ck0 (b : Nat) (N : NoN) (w : World) (hN : NB w b N) (hA : N.At w) (hg : Ground w) (hk : N.cd = 0) : Calls Tryz.prog 151 #[.pointer (some ⟨b, 0, none⟩)] w (CK ((((1 : Int) ≤ (N.parts.length : Int) ∧ (N.parts.length : Int) ≤ 1) ∧ ∀ x ∈ N.parts, PaN.Ok x)) w) := by
  obtain ⟨ok, hok⟩ : ∃ ok : Prop, ((((1 : Int) ≤ (N.parts.length : Int) ∧ (N.parts.length : Int) ≤ 1) ∧ ∀ x ∈ N.parts, PaN.Ok x) : Prop) = ok := ⟨_, rfl⟩
  have HOK : Hid (ok = ((((1 : Int) ≤ (N.parts.length : Int) ∧ (N.parts.length : Int) ≤ 1) ∧ ∀ x ∈ N.parts, PaN.Ok x))) := hok.symm
  rw [hok]
  clear hok
  have HG : Hid (Ground w) := hg
  have HA : Hid (N.At w) := hA
  have HE0 : Hid (NB w b N) := hN
  have HB0 : Hid (Below w.heap.size w w) := Below.refl _ _
  clear hg hA hN
  go_enter Tryz.func151, Tryz.ntmps151
  have c0 := HE0.out.cell (i := 10) (v := .int .i64 N.cd) rfl
  have c1 := HE0.out.cell (i := 18) (v := .slice N.partsA N.parts.length N.partsC) rfl
  go_wp2_with (first
    | (have hq := HB0; clear hq; go_at_call 218; refine Calls.mono (listPa 1 1 N.partsA N.partsC N.parts PaN.Ok _ (fun x hx W hb => Pa_ck x W (HG.out.below (below_of HB0.out hb)) ((HA.out.partsS x hx).below (below_of HB0.out hb))) (HA.out.parts.below HB0.out)) ?_; rintro e w1 ⟨⟨rfl, h⟩ | ⟨rfl, h⟩, hb⟩
       rotate_left
       · exact ⟨rfl, .inr ⟨rfl, by rw [HOK.out]; exact fun g => h (g)⟩, xtransN HB0.out hb⟩
       have H0 : Hid ((((1 : Int) ≤ (N.parts.length : Int) ∧ (N.parts.length : Int) ≤ 1) ∧ ∀ x ∈ N.parts, PaN.Ok x)) := h
       have HB1 : Hid (Below w.heap.size w w1) := xtransN HB0.out hb
       have HE1 : Hid (NB w1 b N) := kept_block HB1.out HE0.out
       clear h hb c0 c1
       have c0 := HE1.out.cell (i := 10) (v := .int .i64 N.cd) rfl
       have c1 := HE1.out.cell (i := 18) (v := .slice N.partsA N.parts.length N.partsC) rfl)
    | fail)
  all_goals exact bodyPost_end (results_none rfl _ _ _) rfl ⟨.inl ⟨rfl, by rw [HOK.out]; exact H0.out⟩, HB1.out⟩
set_option maxHeartbeats 3200000 in
theorem Parts_cke (b : Nat) (N : NoN) (w : World) (hN : NB w b N) (hA : N.At w) (hg : Ground w) (hk : ¬ N.cd = 0) : Calls Tryz.prog 151 #[.pointer (some ⟨b, 0, none⟩)] w (CK ((((1 : Int) ≤ (N.parts.length : Int) ∧ (N.parts.length : Int) ≤ 1) ∧ ∀ x ∈ N.parts, PnOk x)) w) := by
  obtain ⟨ok, hok⟩ : ∃ ok : Prop, ((((1 : Int) ≤ (N.parts.length : Int) ∧ (N.parts.length : Int) ≤ 1) ∧ ∀ x ∈ N.parts, PnOk x) : Prop) = ok := ⟨_, rfl⟩
  have HOK : Hid (ok = ((((1 : Int) ≤ (N.parts.length : Int) ∧ (N.parts.length : Int) ≤ 1) ∧ ∀ x ∈ N.parts, PnOk x))) := hok.symm
  rw [hok]
  clear hok
  have HG : Hid (Ground w) := hg
  have HA : Hid (N.At w) := hA
  have HE0 : Hid (NB w b N) := hN
  have HB0 : Hid (Below w.heap.size w w) := Below.refl _ _
  clear hg hA hN
  go_enter Tryz.func151, Tryz.ntmps151
  have c0 := HE0.out.cell (i := 10) (v := .int .i64 N.cd) rfl
  have c1 := HE0.out.cell (i := 18) (v := .slice N.partsA N.parts.length N.partsC) rfl
  go_wp2_with (first
    | (have hq := HB0; clear hq; go_at_call 218; refine Calls.mono (listPn 1 1 N.partsA N.partsC N.parts PnOk _ (fun x hx W hb => Pn_ck x W ((HA.out.partsS x hx).below (below_of HB0.out hb))) (HA.out.parts.below HB0.out)) ?_; rintro e w1 ⟨⟨rfl, h⟩ | ⟨rfl, h⟩, hb⟩
       rotate_left
       · exact ⟨rfl, .inr ⟨rfl, by rw [HOK.out]; exact fun g => h (g)⟩, xtransN HB0.out hb⟩
       have H0 : Hid ((((1 : Int) ≤ (N.parts.length : Int) ∧ (N.parts.length : Int) ≤ 1) ∧ ∀ x ∈ N.parts, PnOk x)) := h
       have HB1 : Hid (Below w.heap.size w w1) := xtransN HB0.out hb
       have HE1 : Hid (NB w1 b N) := kept_block HB1.out HE0.out
       clear h hb c0 c1
       have c0 := HE1.out.cell (i := 10) (v := .int .i64 N.cd) rfl
       have c1 := HE1.out.cell (i := 18) (v := .slice N.partsA N.parts.length N.partsC) rfl)
    | fail)
  all_goals exact bodyPost_end (results_none rfl _ _ _) rfl ⟨.inl ⟨rfl, by rw [HOK.out]; exact H0.out⟩, HB1.out⟩
end Go.Proofs.YtdjfeomdiljaeaaGreatDoor
