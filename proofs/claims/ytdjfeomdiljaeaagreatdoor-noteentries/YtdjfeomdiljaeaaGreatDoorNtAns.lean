/-
  note: answered.
-/
import Derived.Test.YtdjfeomdiljaeaaGreatDoorNtList
import Derived.Defers
import Derived.Recover
import Derived.Laws.Tables
namespace Go.Proofs.YtdjfeomdiljaeaaGreatDoor
open Go.RowKit Classical
set_option linter.unusedVariables false
set_option linter.unusedSimpArgs false

/-- How answered ends: what the closure made, or nothing and the error; k blocks from w's end on are its own. -/
def AnsEnd (k : Nat) (PR : Value → World → Prop) (PB : World → Prop) (zero : Value) (w : World) (e : Ending) (w' : World) : Prop :=
  ∃ w1, Below w.heap.size w w1 ∧ w.heap.size + k ≤ w1.heap.size ∧ Chg w1 w' (fun j => w.heap.size ≤ j ∧ j < w.heap.size + k) ∧ ((∃ V, PR V w1 ∧ e = .returned (.tuple #[V, .int .i64 0])) ∨ (PB w1 ∧ e = .returned (.tuple #[zero, .int .i64 30])))
theorem row_set {w : World} {g : Nat} {old cs : Array Value} {t : TypeId} (h : w.heap[g]? = some (.cells old t (0, 0))) : (w.setRow g cs).heap[g]? = some (.cells cs t (0, 0)) := by
  show (w.heap.modify g _)[g]? = _
  rw [Array.getElem?_modify, if_pos rfl, h]
  rfl
theorem row_chg {w : World} {g : Nat} {old cs : Array Value} {t : TypeId} (h : w.heap[g]? = some (.cells old t (0, 0))) : Chg w (w.setRow g cs) (fun j => j = g) := by
  refine ⟨rfl, rfl, rfl, by simp [World.setRow], fun j hj hn => ?_⟩
  show (w.heap.modify g _)[j]? = _
  rw [Array.getElem?_modify, if_neg (Ne.symm hn)]
theorem results_cellsA {P : Program} {fn : Func} {p q : Tmp} {ty ty' : TypeId} (h : fn.results = #[.cell p ty, .cell q ty']) (tmps : Array Value) (w : World) (g g' : Nat) (t : TypeId) (cs : Array Value) (fr : Nat × Nat) (d : TypeDesc) (v : Value)
    (hp : tmps.getD p undef = .pointer (some ⟨g, 0, none⟩)) (hq : tmps.getD q undef = .pointer (some ⟨g', 0, none⟩)) (hg : w.heap[g]? = some (.cells cs t fr))
    (hu : P.underlying ty = some d) (hd : (match d with | .struct _ | .array _ _ => true | _ => false) = true) (hi : (P.info? ty).map (·.size) = some cs.size)
    (hv : (loadVar ty' ⟨g', 0, none⟩).run P w = .ok v w) :
    (results fn tmps).run P w = .ok (.tuple #[.agg cs, v]) w := by
  have hp' : tmps[p]?.getD undef = .pointer (some ⟨g, 0, none⟩) := by simpa using hp
  have hq' : tmps[q]?.getD undef = .pointer (some ⟨g', 0, none⟩) := by simpa using hq
  simp [results, h, hp', hq', asAddr, run_loadVar_row w g t ty cs fr d hg hu hd hi, hv]
theorem load_errnoA {W : World} {b : Nat} {n : Int} (h : W.heap[b]? = some (.cells #[.int .i64 n] 28 (0, 0))) : (loadVar 28 ⟨b, 0, none⟩).run Tryz.prog W = .ok (.int .i64 n) W := by
  have c1 := cells_1 h
  simp [go_sem, c1]
theorem idle_b (x : Value) (w : World) :
    CallsD Tryz.prog 66 #[x] .returning w fun e u' w' => e = .returned (.tuple #[]) ∧ u' = .returning ∧ w' = w := by
  refine callsD_of_wpS Tryz.func66 rfl fun c₀ cs hu => ?_
  apply wpS_seq
  apply wpS_region
  simp [wpOpsS, go_sem, recoverD, hu, Tryz.ntmps66, Exit.thenS]
  refine wpS_cond (t := false) (by simp [Act.eval, Array.replicate]) ?_
  simp only [Bool.false_eq_true, if_false]
  refine wpS_of_wp (wp_skip ?_)
  cases c₀
  simp_all [bodyPostS, results, Tryz.results66]
theorem catch_b (bc : Nat) (z0 : Value) (u : TypeId) (pv : Value) (older : List PanicEntry) (w : World) (hc : w.heap[bc]? = some (.cells #[z0] 28 (0, 0))) :
    CallsD Tryz.prog 66 #[.pointer (some ⟨bc, 0, none⟩)] (.panicking ({ v := .iface u pv, recovered := false } :: older)) w fun e u' w' =>
      e = .returned (.tuple #[]) ∧ u' = .panicking ({ v := .iface u pv, recovered := true } :: older) ∧ w' = w.setCell ⟨bc, 0, none⟩ (.int .i64 30) := by
  have c1 := cells_1 hc
  have g1 := free_1 hc
  refine callsD_of_wpS Tryz.func66 rfl fun c₀ cs hu => ?_
  apply wpS_seq
  apply wpS_region
  simp [wpOpsS, go_sem, recoverD, hu, Tryz.ntmps66, Exit.thenS]
  refine wpS_cond (t := true) (by simp [Act.eval, Array.replicate]) ?_
  simp only [if_true]
  apply wpS_region
  simp [wpOpsS, go_sem, c1, g1, bodyPostS, results, Tryz.results66]
set_option maxHeartbeats 3200000 in
set_option maxRecDepth 100000 in
theorem ans_b (F : Nat) (C : Array Value) (w : World) (PR : Value → World → Prop) (PB : World → Prop) (inF : ∀ (A : Array Value) (W : World), (callFunc F A).run Tryz.prog W = .ok (.enter F A) W)
    (hcall : Calls Tryz.prog F C (w.alloc (.cells #[.int .i64 0] 28)) fun e w1 => ((∃ V, e = .returned V ∧ PR V w1) ∨ e = .panicked PN ∧ PB w1) ∧ Below (w.alloc (.cells #[.int .i64 0] 28)).heap.size (w.alloc (.cells #[.int .i64 0] 28)) w1) :
    Calls Tryz.prog 23 #[.func (.func F) #[] C] w fun e w' => AnsEnd 1 PR PB (.slice none 0 0) w e w' := by
  have HC : Hid _ := hcall
  have HA : Hid (Below w.heap.size w (w.alloc (.cells #[.int .i64 0] 28))) := (Below.refl _ _).alloc (Nat.le_refl _) _
  have HN : Hid ((w.alloc (.cells #[.int .i64 0] 28)).heap[w.heap.size]? = some (.cells #[.int .i64 0] 28 (0, 0))) := heap_alloc_new _ _
  clear hcall
  go_enter_defers Tryz.func23, Tryz.ntmps23
  go_wp2_with (first
    | (refine Calls.mono HC.out ?_; intro e w1 hE; obtain ⟨hE, hb⟩ := hE; (have HX : Hid (w1.heap[w.heap.size]? = some (.cells #[.int .i64 0] 28 (0, 0))) := kept_block hb HN.out); (have HB : Hid (Below w.heap.size w w1) := xtransN HA.out hb); have c1 := cells_1 HX.out; have g1 := free_1 HX.out; rcases hE with ⟨V, rfl, hp⟩ | ⟨rfl, hp⟩)
    | fail)
  · have hq : (w1.setCell ⟨w.heap.size, 0, none⟩ (.int .i64 0)).heap[w.heap.size]? = some (.cells #[.int .i64 0] 28 (0, 0)) := same_blk HX.out rfl
    have h1 := cells_1 hq
    refine leaves_cons (f := 66) (args := #[.pointer (some ⟨w.heap.size, 0, none⟩)]) (by simp) (by simp [go_sem]) ?_
    refine (idle_b _ _).mono ?_
    rintro e u' w'' ⟨rfl, rfl, rfl⟩
    exact ⟨.tuple #[V, .int .i64 0], by simp [results, Tryz.results23, go_sem, h1], w1, HB.out, lt_of_blk HX.out, (Chg.set _ _ _).mono (fun j _ e => by have e' : j = w.heap.size := e; omega), .inl ⟨V, hp, rfl⟩⟩
  · have hq : (w1.setCell ⟨w.heap.size, 0, none⟩ (.int .i64 30)).heap[w.heap.size]? = some (.cells #[.int .i64 30] 28 (0, 0)) := same_blk HX.out rfl
    have h1 := cells_1 hq
    refine leaves_cons (f := 66) (args := #[.pointer (some ⟨w.heap.size, 0, none⟩)]) (by simp) (by simp [go_sem]) ?_
    refine (catch_b w.heap.size (.int .i64 0) 28 (.int .i64 30) [] w1 HX.out).mono ?_
    rintro e u' w'' ⟨rfl, rfl, rfl⟩
    exact ⟨.tuple #[.slice none 0 0, .int .i64 30], by simp [results, Tryz.results23, go_sem, h1], w1, HB.out, lt_of_blk HX.out, (Chg.set _ _ _).mono (fun j _ e => by have e' : j = w.heap.size := e; omega), .inr ⟨hp, rfl⟩⟩
theorem idle_o (x : Value) (w : World) :
    CallsD Tryz.prog 82 #[x] .returning w fun e u' w' => e = .returned (.tuple #[]) ∧ u' = .returning ∧ w' = w := by
  refine callsD_of_wpS Tryz.func82 rfl fun c₀ cs hu => ?_
  apply wpS_seq
  apply wpS_region
  simp [wpOpsS, go_sem, recoverD, hu, Tryz.ntmps82, Exit.thenS]
  refine wpS_cond (t := false) (by simp [Act.eval, Array.replicate]) ?_
  simp only [Bool.false_eq_true, if_false]
  refine wpS_of_wp (wp_skip ?_)
  cases c₀
  simp_all [bodyPostS, results, Tryz.results82]
theorem catch_o (bc : Nat) (z0 : Value) (u : TypeId) (pv : Value) (older : List PanicEntry) (w : World) (hc : w.heap[bc]? = some (.cells #[z0] 28 (0, 0))) :
    CallsD Tryz.prog 82 #[.pointer (some ⟨bc, 0, none⟩)] (.panicking ({ v := .iface u pv, recovered := false } :: older)) w fun e u' w' =>
      e = .returned (.tuple #[]) ∧ u' = .panicking ({ v := .iface u pv, recovered := true } :: older) ∧ w' = w.setCell ⟨bc, 0, none⟩ (.int .i64 30) := by
  have c1 := cells_1 hc
  have g1 := free_1 hc
  refine callsD_of_wpS Tryz.func82 rfl fun c₀ cs hu => ?_
  apply wpS_seq
  apply wpS_region
  simp [wpOpsS, go_sem, recoverD, hu, Tryz.ntmps82, Exit.thenS]
  refine wpS_cond (t := true) (by simp [Act.eval, Array.replicate]) ?_
  simp only [if_true]
  apply wpS_region
  simp [wpOpsS, go_sem, c1, g1, bodyPostS, results, Tryz.results82]
set_option maxHeartbeats 3200000 in
set_option maxRecDepth 100000 in
theorem ans_o (F : Nat) (C : Array Value) (w : World) (PR : Value → World → Prop) (PB : World → Prop) (inF : ∀ (A : Array Value) (W : World), (callFunc F A).run Tryz.prog W = .ok (.enter F A) W)
    (hcall : Calls Tryz.prog F C (w.alloc (.cells #[.int .i64 0] 28)) fun e w1 => ((∃ V, e = .returned V ∧ PR V w1) ∨ e = .panicked PN ∧ PB w1) ∧ Below (w.alloc (.cells #[.int .i64 0] 28)).heap.size (w.alloc (.cells #[.int .i64 0] 28)) w1) :
    Calls Tryz.prog 38 #[.func (.func F) #[] C] w fun e w' => AnsEnd 1 PR PB (.bool false) w e w' := by
  have HC : Hid _ := hcall
  have HA : Hid (Below w.heap.size w (w.alloc (.cells #[.int .i64 0] 28))) := (Below.refl _ _).alloc (Nat.le_refl _) _
  have HN : Hid ((w.alloc (.cells #[.int .i64 0] 28)).heap[w.heap.size]? = some (.cells #[.int .i64 0] 28 (0, 0))) := heap_alloc_new _ _
  clear hcall
  go_enter_defers Tryz.func38, Tryz.ntmps38
  go_wp2_with (first
    | (refine Calls.mono HC.out ?_; intro e w1 hE; obtain ⟨hE, hb⟩ := hE; (have HX : Hid (w1.heap[w.heap.size]? = some (.cells #[.int .i64 0] 28 (0, 0))) := kept_block hb HN.out); (have HB : Hid (Below w.heap.size w w1) := xtransN HA.out hb); have c1 := cells_1 HX.out; have g1 := free_1 HX.out; rcases hE with ⟨V, rfl, hp⟩ | ⟨rfl, hp⟩)
    | fail)
  · have hq : (w1.setCell ⟨w.heap.size, 0, none⟩ (.int .i64 0)).heap[w.heap.size]? = some (.cells #[.int .i64 0] 28 (0, 0)) := same_blk HX.out rfl
    have h1 := cells_1 hq
    refine leaves_cons (f := 82) (args := #[.pointer (some ⟨w.heap.size, 0, none⟩)]) (by simp) (by simp [go_sem]) ?_
    refine (idle_o _ _).mono ?_
    rintro e u' w'' ⟨rfl, rfl, rfl⟩
    exact ⟨.tuple #[V, .int .i64 0], by simp [results, Tryz.results38, go_sem, h1], w1, HB.out, lt_of_blk HX.out, (Chg.set _ _ _).mono (fun j _ e => by have e' : j = w.heap.size := e; omega), .inl ⟨V, hp, rfl⟩⟩
  · have hq : (w1.setCell ⟨w.heap.size, 0, none⟩ (.int .i64 30)).heap[w.heap.size]? = some (.cells #[.int .i64 30] 28 (0, 0)) := same_blk HX.out rfl
    have h1 := cells_1 hq
    refine leaves_cons (f := 82) (args := #[.pointer (some ⟨w.heap.size, 0, none⟩)]) (by simp) (by simp [go_sem]) ?_
    refine (catch_o w.heap.size (.int .i64 0) 28 (.int .i64 30) [] w1 HX.out).mono ?_
    rintro e u' w'' ⟨rfl, rfl, rfl⟩
    exact ⟨.tuple #[.bool false, .int .i64 30], by simp [results, Tryz.results38, go_sem, h1], w1, HB.out, lt_of_blk HX.out, (Chg.set _ _ _).mono (fun j _ e => by have e' : j = w.heap.size := e; omega), .inr ⟨hp, rfl⟩⟩
theorem idle_e (x : Value) (w : World) :
    CallsD Tryz.prog 77 #[x] .returning w fun e u' w' => e = .returned (.tuple #[]) ∧ u' = .returning ∧ w' = w := by
  refine callsD_of_wpS Tryz.func77 rfl fun c₀ cs hu => ?_
  apply wpS_seq
  apply wpS_region
  simp [wpOpsS, go_sem, recoverD, hu, Tryz.ntmps77, Exit.thenS]
  refine wpS_cond (t := false) (by simp [Act.eval, Array.replicate]) ?_
  simp only [Bool.false_eq_true, if_false]
  refine wpS_of_wp (wp_skip ?_)
  cases c₀
  simp_all [bodyPostS, results, Tryz.results77]
theorem catch_e (bc : Nat) (z0 : Value) (u : TypeId) (pv : Value) (older : List PanicEntry) (w : World) (hc : w.heap[bc]? = some (.cells #[z0] 28 (0, 0))) :
    CallsD Tryz.prog 77 #[.pointer (some ⟨bc, 0, none⟩)] (.panicking ({ v := .iface u pv, recovered := false } :: older)) w fun e u' w' =>
      e = .returned (.tuple #[]) ∧ u' = .panicking ({ v := .iface u pv, recovered := true } :: older) ∧ w' = w.setCell ⟨bc, 0, none⟩ (.int .i64 30) := by
  have c1 := cells_1 hc
  have g1 := free_1 hc
  refine callsD_of_wpS Tryz.func77 rfl fun c₀ cs hu => ?_
  apply wpS_seq
  apply wpS_region
  simp [wpOpsS, go_sem, recoverD, hu, Tryz.ntmps77, Exit.thenS]
  refine wpS_cond (t := true) (by simp [Act.eval, Array.replicate]) ?_
  simp only [if_true]
  apply wpS_region
  simp [wpOpsS, go_sem, c1, g1, bodyPostS, results, Tryz.results77]
abbrev w2_e (w : World) : World := (w.alloc (.cells #[.int .i64 0, .int .i64 0, .int .i64 0, .int .i64 0, .int .i64 0, .slice none 0 0] 24)).alloc (.cells #[.int .i64 0] 28)
set_option maxHeartbeats 3200000 in
set_option maxRecDepth 100000 in
theorem ans_e (F : Nat) (C : Array Value) (w : World) (PR : Value → World → Prop) (PB : World → Prop) (inF : ∀ (A : Array Value) (W : World), (callFunc F A).run Tryz.prog W = .ok (.enter F A) W)
    (hcall : Calls Tryz.prog F C (w2_e w) fun e w1 => ((∃ cs : Array Value, e = .returned (.agg cs) ∧ cs.size = 6 ∧ cs.all (·.oneCell') = true ∧ PR (.agg cs) w1) ∨ e = .panicked PN ∧ PB w1) ∧ Below (w2_e w).heap.size (w2_e w) w1) :
    Calls Tryz.prog 30 #[.func (.func F) #[] C] w fun e w' => AnsEnd 2 PR PB (.agg #[.int .i64 0, .int .i64 0, .int .i64 0, .int .i64 0, .int .i64 0, .slice none 0 0]) w e w' := by
  have HC : Hid _ := hcall
  have HA : Hid (Below w.heap.size w (w2_e w)) := ((Below.refl _ _).alloc (Nat.le_refl _) _).alloc (by simp) _
  have HN : Hid ((w2_e w).heap[w.heap.size]? = some (.cells #[.int .i64 0, .int .i64 0, .int .i64 0, .int .i64 0, .int .i64 0, .slice none 0 0] 24 (0, 0))) := new_old (heap_alloc_new _ _) _
  have HM : Hid ((w2_e w).heap[w.heap.size + 1]? = some (.cells #[.int .i64 0] 28 (0, 0))) := heap_new' (by simp)
  clear hcall
  go_enter_defers Tryz.func30, Tryz.ntmps30
  go_wp2_with (first
    | (refine Calls.mono HC.out ?_; intro e w1 hE; obtain ⟨hE, hb⟩ := hE; (have HX : Hid (w1.heap[w.heap.size]? = some (.cells #[.int .i64 0, .int .i64 0, .int .i64 0, .int .i64 0, .int .i64 0, .slice none 0 0] 24 (0, 0))) := kept_block hb HN.out); (have HY : Hid (w1.heap[w.heap.size + 1]? = some (.cells #[.int .i64 0] 28 (0, 0))) := kept_block hb HM.out); (have HB : Hid (Below w.heap.size w w1) := xtransN HA.out hb); rcases hE with ⟨cs, rfl, hsz, hone, hp⟩ | ⟨rfl, hp⟩)
    | (refine wpList_store_row rfl 24 _ _ rfl w.heap.size cs rfl rfl 24 _ HX.out (by rw [hsz]; kernel_rfl) (by rw [hsz]; rfl) hone ?_
       (have HX2 : Hid ((w1.setRow w.heap.size cs).heap[w.heap.size]? = some (.cells cs 24 (0, 0))) := row_set HX.out)
       (have HY2 : Hid ((w1.setRow w.heap.size cs).heap[w.heap.size + 1]? = some (.cells #[.int .i64 0] 28 (0, 0))) := by show _ = _; rw [(row_chg HX.out).block _ (lt_of_blk HY.out) (by omega)]; exact HY.out)
       have c1 := cells_1 HY2.out; have g1 := free_1 HY2.out)
    | fail)
  · have hq : ((w1.setRow w.heap.size cs).setCell ⟨w.heap.size + 1, 0, none⟩ (.int .i64 0)).heap[w.heap.size + 1]? = some (.cells #[.int .i64 0] 28 (0, 0)) := same_blk HY2.out rfl
    have hr : ((w1.setRow w.heap.size cs).setCell ⟨w.heap.size + 1, 0, none⟩ (.int .i64 0)).heap[w.heap.size]? = some (.cells cs 24 (0, 0)) := other_blk HX2.out (by omega)
    refine leaves_cons (f := 77) (args := #[.pointer (some ⟨w.heap.size + 1, 0, none⟩)]) (by simp) (by simp [go_sem]) ?_
    refine (idle_e _ _).mono ?_
    rintro e u' w'' ⟨rfl, rfl, rfl⟩
    exact ⟨_, results_cellsA rfl _ _ w.heap.size (w.heap.size + 1) 24 cs (0, 0) _ (.int .i64 0) rfl rfl hr Tryz.underlying24 rfl (by rw [hsz]; kernel_rfl) (load_errnoA hq), w1, HB.out, lt_of_blk HY.out, ((row_chg HX.out).mono (fun j _ e => by omega)).trans ((Chg.set _ _ _).mono (fun j _ e => by have e' : j = w.heap.size + 1 := e; omega)), .inl ⟨_, hp, rfl⟩⟩
  · have hq : (w1.setCell ⟨w.heap.size + 1, 0, none⟩ (.int .i64 30)).heap[w.heap.size + 1]? = some (.cells #[.int .i64 30] 28 (0, 0)) := same_blk HY.out rfl
    have hr : (w1.setCell ⟨w.heap.size + 1, 0, none⟩ (.int .i64 30)).heap[w.heap.size]? = some (.cells #[.int .i64 0, .int .i64 0, .int .i64 0, .int .i64 0, .int .i64 0, .slice none 0 0] 24 (0, 0)) := other_blk HX.out (by omega)
    refine leaves_cons (f := 77) (args := #[.pointer (some ⟨w.heap.size + 1, 0, none⟩)]) (by simp) (by simp [go_sem]) ?_
    refine (catch_e (w.heap.size + 1) (.int .i64 0) 28 (.int .i64 30) [] w1 HY.out).mono ?_
    rintro e u' w'' ⟨rfl, rfl, rfl⟩
    exact ⟨_, results_cellsA rfl _ _ w.heap.size (w.heap.size + 1) 24 _ (0, 0) _ (.int .i64 30) rfl rfl hr Tryz.underlying24 rfl (by kernel_rfl) (load_errnoA hq), w1, HB.out, lt_of_blk HY.out, (Chg.set _ _ _).mono (fun j _ e => by have e' : j = w.heap.size + 1 := e; omega), .inr ⟨hp, rfl⟩⟩
theorem idle_n (x : Value) (w : World) :
    CallsD Tryz.prog 103 #[x] .returning w fun e u' w' => e = .returned (.tuple #[]) ∧ u' = .returning ∧ w' = w := by
  refine callsD_of_wpS Tryz.func103 rfl fun c₀ cs hu => ?_
  apply wpS_seq
  apply wpS_region
  simp [wpOpsS, go_sem, recoverD, hu, Tryz.ntmps103, Exit.thenS]
  refine wpS_cond (t := false) (by simp [Act.eval, Array.replicate]) ?_
  simp only [Bool.false_eq_true, if_false]
  refine wpS_of_wp (wp_skip ?_)
  cases c₀
  simp_all [bodyPostS, results, Tryz.results103]
theorem catch_n (bc : Nat) (z0 : Value) (u : TypeId) (pv : Value) (older : List PanicEntry) (w : World) (hc : w.heap[bc]? = some (.cells #[z0] 28 (0, 0))) :
    CallsD Tryz.prog 103 #[.pointer (some ⟨bc, 0, none⟩)] (.panicking ({ v := .iface u pv, recovered := false } :: older)) w fun e u' w' =>
      e = .returned (.tuple #[]) ∧ u' = .panicking ({ v := .iface u pv, recovered := true } :: older) ∧ w' = w.setCell ⟨bc, 0, none⟩ (.int .i64 30) := by
  have c1 := cells_1 hc
  have g1 := free_1 hc
  refine callsD_of_wpS Tryz.func103 rfl fun c₀ cs hu => ?_
  apply wpS_seq
  apply wpS_region
  simp [wpOpsS, go_sem, recoverD, hu, Tryz.ntmps103, Exit.thenS]
  refine wpS_cond (t := true) (by simp [Act.eval, Array.replicate]) ?_
  simp only [if_true]
  apply wpS_region
  simp [wpOpsS, go_sem, c1, g1, bodyPostS, results, Tryz.results103]
abbrev w2_n (w : World) : World := (w.alloc (.cells #[.int .i64 0, .int .i64 0, .int .i64 0, .int .i64 0, .int .i64 0, .int .i64 0, .int .i64 0, .int .i64 0, .int .i64 0, .int .i64 0, .int .i64 0, .slice none 0 0, .slice none 0 0, .int .i64 0, .int .i64 0, .int .i64 0, .slice none 0 0, .slice none 0 0, .slice none 0 0, .slice none 0 0, .string ⟨#[]⟩] 51)).alloc (.cells #[.int .i64 0] 28)
set_option maxHeartbeats 3200000 in
set_option maxRecDepth 100000 in
theorem ans_n (F : Nat) (C : Array Value) (w : World) (PR : Value → World → Prop) (PB : World → Prop) (inF : ∀ (A : Array Value) (W : World), (callFunc F A).run Tryz.prog W = .ok (.enter F A) W)
    (hcall : Calls Tryz.prog F C (w2_n w) fun e w1 => ((∃ cs : Array Value, e = .returned (.agg cs) ∧ cs.size = 21 ∧ cs.all (·.oneCell') = true ∧ PR (.agg cs) w1) ∨ e = .panicked PN ∧ PB w1) ∧ Below (w2_n w).heap.size (w2_n w) w1) :
    Calls Tryz.prog 62 #[.func (.func F) #[] C] w fun e w' => AnsEnd 2 PR PB (.agg #[.int .i64 0, .int .i64 0, .int .i64 0, .int .i64 0, .int .i64 0, .int .i64 0, .int .i64 0, .int .i64 0, .int .i64 0, .int .i64 0, .int .i64 0, .slice none 0 0, .slice none 0 0, .int .i64 0, .int .i64 0, .int .i64 0, .slice none 0 0, .slice none 0 0, .slice none 0 0, .slice none 0 0, .string ⟨#[]⟩]) w e w' := by
  have HC : Hid _ := hcall
  have HA : Hid (Below w.heap.size w (w2_n w)) := ((Below.refl _ _).alloc (Nat.le_refl _) _).alloc (by simp) _
  have HN : Hid ((w2_n w).heap[w.heap.size]? = some (.cells #[.int .i64 0, .int .i64 0, .int .i64 0, .int .i64 0, .int .i64 0, .int .i64 0, .int .i64 0, .int .i64 0, .int .i64 0, .int .i64 0, .int .i64 0, .slice none 0 0, .slice none 0 0, .int .i64 0, .int .i64 0, .int .i64 0, .slice none 0 0, .slice none 0 0, .slice none 0 0, .slice none 0 0, .string ⟨#[]⟩] 51 (0, 0))) := new_old (heap_alloc_new _ _) _
  have HM : Hid ((w2_n w).heap[w.heap.size + 1]? = some (.cells #[.int .i64 0] 28 (0, 0))) := heap_new' (by simp)
  clear hcall
  go_enter_defers Tryz.func62, Tryz.ntmps62
  go_wp2_with (first
    | (refine Calls.mono HC.out ?_; intro e w1 hE; obtain ⟨hE, hb⟩ := hE; (have HX : Hid (w1.heap[w.heap.size]? = some (.cells #[.int .i64 0, .int .i64 0, .int .i64 0, .int .i64 0, .int .i64 0, .int .i64 0, .int .i64 0, .int .i64 0, .int .i64 0, .int .i64 0, .int .i64 0, .slice none 0 0, .slice none 0 0, .int .i64 0, .int .i64 0, .int .i64 0, .slice none 0 0, .slice none 0 0, .slice none 0 0, .slice none 0 0, .string ⟨#[]⟩] 51 (0, 0))) := kept_block hb HN.out); (have HY : Hid (w1.heap[w.heap.size + 1]? = some (.cells #[.int .i64 0] 28 (0, 0))) := kept_block hb HM.out); (have HB : Hid (Below w.heap.size w w1) := xtransN HA.out hb); rcases hE with ⟨cs, rfl, hsz, hone, hp⟩ | ⟨rfl, hp⟩)
    | (refine wpList_store_row rfl 51 _ _ rfl w.heap.size cs rfl rfl 51 _ HX.out (by rw [hsz]; kernel_rfl) (by rw [hsz]; rfl) hone ?_
       (have HX2 : Hid ((w1.setRow w.heap.size cs).heap[w.heap.size]? = some (.cells cs 51 (0, 0))) := row_set HX.out)
       (have HY2 : Hid ((w1.setRow w.heap.size cs).heap[w.heap.size + 1]? = some (.cells #[.int .i64 0] 28 (0, 0))) := by show _ = _; rw [(row_chg HX.out).block _ (lt_of_blk HY.out) (by omega)]; exact HY.out)
       have c1 := cells_1 HY2.out; have g1 := free_1 HY2.out)
    | fail)
  · have hq : ((w1.setRow w.heap.size cs).setCell ⟨w.heap.size + 1, 0, none⟩ (.int .i64 0)).heap[w.heap.size + 1]? = some (.cells #[.int .i64 0] 28 (0, 0)) := same_blk HY2.out rfl
    have hr : ((w1.setRow w.heap.size cs).setCell ⟨w.heap.size + 1, 0, none⟩ (.int .i64 0)).heap[w.heap.size]? = some (.cells cs 51 (0, 0)) := other_blk HX2.out (by omega)
    refine leaves_cons (f := 103) (args := #[.pointer (some ⟨w.heap.size + 1, 0, none⟩)]) (by simp) (by simp [go_sem]) ?_
    refine (idle_n _ _).mono ?_
    rintro e u' w'' ⟨rfl, rfl, rfl⟩
    exact ⟨_, results_cellsA rfl _ _ w.heap.size (w.heap.size + 1) 51 cs (0, 0) _ (.int .i64 0) rfl rfl hr Tryz.underlying51 rfl (by rw [hsz]; kernel_rfl) (load_errnoA hq), w1, HB.out, lt_of_blk HY.out, ((row_chg HX.out).mono (fun j _ e => by omega)).trans ((Chg.set _ _ _).mono (fun j _ e => by have e' : j = w.heap.size + 1 := e; omega)), .inl ⟨_, hp, rfl⟩⟩
  · have hq : (w1.setCell ⟨w.heap.size + 1, 0, none⟩ (.int .i64 30)).heap[w.heap.size + 1]? = some (.cells #[.int .i64 30] 28 (0, 0)) := same_blk HY.out rfl
    have hr : (w1.setCell ⟨w.heap.size + 1, 0, none⟩ (.int .i64 30)).heap[w.heap.size]? = some (.cells #[.int .i64 0, .int .i64 0, .int .i64 0, .int .i64 0, .int .i64 0, .int .i64 0, .int .i64 0, .int .i64 0, .int .i64 0, .int .i64 0, .int .i64 0, .slice none 0 0, .slice none 0 0, .int .i64 0, .int .i64 0, .int .i64 0, .slice none 0 0, .slice none 0 0, .slice none 0 0, .slice none 0 0, .string ⟨#[]⟩] 51 (0, 0)) := other_blk HX.out (by omega)
    refine leaves_cons (f := 103) (args := #[.pointer (some ⟨w.heap.size + 1, 0, none⟩)]) (by simp) (by simp [go_sem]) ?_
    refine (catch_n (w.heap.size + 1) (.int .i64 0) 28 (.int .i64 30) [] w1 HY.out).mono ?_
    rintro e u' w'' ⟨rfl, rfl, rfl⟩
    exact ⟨_, results_cellsA rfl _ _ w.heap.size (w.heap.size + 1) 51 _ (0, 0) _ (.int .i64 30) rfl rfl hr Tryz.underlying51 rfl (by kernel_rfl) (load_errnoA hq), w1, HB.out, lt_of_blk HY.out, (Chg.set _ _ _).mono (fun j _ e => by have e' : j = w.heap.size + 1 := e; omega), .inr ⟨hp, rfl⟩⟩
end Go.Proofs.YtdjfeomdiljaeaaGreatDoor
