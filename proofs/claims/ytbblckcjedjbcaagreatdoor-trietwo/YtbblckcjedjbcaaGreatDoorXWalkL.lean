/-
  trie: the law's own walk.
-/
import Derived.Test.YtbblckcjedjbcaaGreatDoorXWalk
import Derived.Maps.OwnIn
namespace Go.Proofs.YtbblckcjedjbcaaGreatDoor
open Go.RowKit Go.Shelf Go.Maps
set_option linter.unusedVariables false
set_option linter.unusedSimpArgs false
attribute [local go_sem] Oper.semAt_some

theorem eq2_func_nil (w : World) (n : Nat) (f : Fn) (a b : Array Value) : (Op.equalIn (n + 1) 51 (.func f a b) .nilFunc).run Tryz.prog w = .ok false w := by
  simp [Op.equalIn, run_underlying Tryz.underlying51]
theorem eql2_func_nil (w : World) (f : Fn) (a b : Array Value) : (binOp .eql 51 (.func f a b) .nilFunc).run Tryz.prog w = .ok (.bool false) w := by
  simp only [binOp]
  simp [Op.equal, Op.maxDepth, eq2_func_nil]
theorem Tryz.infoSt : (Tryz.prog.info? 36).map (fun i => (i.zero, i.size, i.bytes)) = some (some (.agg #[.string ⟨#[]⟩, .int .i64 0, .int .i64 0]), 3, 32) := by kernel_rfl
theorem cell_blkX {w : World} {b : Nat} {cs : Array Value} {t : TypeId} {fr : Nat × Nat} (h : w.heap[b]? = some (.cells cs t fr)) (o : Nat) : w.cell? ⟨b, o, none⟩ = cs[o]? := by
  simp [World.cell?, h]
/-- A seat: a watch's place and tag. -/
def He.sc (h : He) : List Value := [.string h.p, .int .i64 h.s, .int .i64 h.i]
def scs (l : List He) : List Value := l.flatMap He.sc
theorem scs_append (a b : List He) : scs (a ++ b) = scs a ++ scs b := by simp [scs]
theorem scs_len (l : List He) : (scs l).length = l.length * 3 := by
  induction l with
  | nil => rfl
  | cons h l ih => simp only [scs, List.flatMap_cons, List.length_append, List.length_cons] at *; rw [ih]; simp [He.sc]; omega
theorem sc_one (h : He) : ∀ v ∈ h.sc, v.oneCell' = true := by
  intro v hv
  simp only [He.sc, List.mem_cons, List.not_mem_nil, or_false] at hv
  rcases hv with rfl | rfl | rfl <;> rfl
theorem cells_newX (W : World) (cs : List Value) (t : TypeId) : ∀ j u, cs[j]? = some u → (W.alloc (.cells cs.toArray t)).cell? ((⟨W.heap.size, 0, none⟩ : Addr).add j) = some u := by
  intro j u hj
  rw [addr_add, Nat.zero_add, cell_blkX (heap_alloc_new _ _), List.getElem?_toArray]
  exact hj
theorem results_boxX {fn : Func} {p u : Tmp} (h : fn.results = #[.cell p 29, .cell u 4]) (tmps : Array Value) (w : World) (g1 g2 : Nat) (v : Value) (b : Bool) (hp : tmps.getD p undef = .pointer (some ⟨g1, 0, none⟩)) (hu : tmps.getD u undef = .pointer (some ⟨g2, 0, none⟩)) (c1 : w.cell? ⟨g1, 0, none⟩ = some v) (c2 : w.cell? ⟨g2, 0, none⟩ = some (.bool b)) :
    (results fn tmps).run Tryz.prog w = .ok (.tuple #[v, .bool b]) w := by
  have hp' : tmps[p]?.getD undef = .pointer (some ⟨g1, 0, none⟩) := by simpa using hp
  have hu' : tmps[u]?.getD undef = .pointer (some ⟨g2, 0, none⟩) := by simpa using hu
  simp only [results, h]
  simp [hp', hu', asAddr]
  go_simp
/-- walk, under way: these are in the list. -/
structure WkJ (w : World) (B : Nat) (P : List He) (lv : Value) (q : Nat) (M : Nat → Prop) (W : World) : Prop where
  b0 : W.heap[w.heap.size]? = some (.cells #[.slice none 0 0] 29 (0, 0))
  b1 : W.heap[w.heap.size + 1]? = some (.cells #[.bool false] 4 (0, 0))
  bb : W.heap[w.heap.size + 1 + 1]? = some (.cells #[ndV B] 26 (0, 0))
  bl : W.heap[w.heap.size + 1 + 1 + 1]? = some (.cells #[lv] 29 (0, 0))
  row : W.ownsRow w.heap.size 36 3 lv q (scs (P.take q))
  m : ∀ k, M k ↔ (k = w.heap.size + 1 + 1 + 1 ∨ lv.ownBlock = some k)
  fr : Below w.heap.size w W
variable {w : World} {B : Nat} {P : List He}
theorem WkJ.below {lv : Value} {q : Nat} {M : Nat → Prop} {W W' : World} (h : WkJ w B P lv q M W) (hb : Below W.heap.size W W') : WkJ w B P lv q M W' :=
  ⟨kept_block hb h.b0, kept_block hb h.b1, kept_block hb h.bb, kept_block hb h.bl, owns_below h.row hb, h.m, h.fr.trans (hb.mono h.fr.size)⟩
theorem WkJ.grown {lv : Value} {q : Nat} {M : Nat → Prop} {W W' : World} {row : Option Nat} {B0 : Nat} (h : WkJ w B P lv q M W) (hB : w.heap.size ≤ B0) (hg : W.grownBy W' row) (hr : ∀ r, row = some r → B0 ≤ r ∧ ∃ o : Obj, W.heap[r]? = some o ∧ o.isCells = false) : WkJ w B P lv q M W' := by
  have hk : Kp NoB W W' := (Kp.refl _ _).grown hg hr
  have no : ∀ k, ¬ NoB k := fun _ h => h
  exact ⟨hk.cells _ _ _ _ h.b0 (no _), hk.cells _ _ _ _ h.b1 (no _), hk.cells _ _ _ _ h.bb (no _), hk.cells _ _ _ _ h.bl (no _), owns_kp h.row hk (fun _ _ => no _), h.m, h.fr.trans ⟨hg.os, hg.tape, hg.output, hg.size, fun k hk' => hg.block k (Nat.lt_of_lt_of_le hk' h.fr.size) (fun e => by have := (hr k e.symm).1; omega)⟩⟩
theorem take_atX {α : Type} {l : List α} {q : Nat} {o : α} (h : l[q]? = some o) : l.take (q + 1) = l.take q ++ [o] := by rw [List.take_add_one, h]; rfl
/-- One more in the list. -/
theorem WkJ.put {lv v' : Value} {q : Nat} {M : Nat → Prop} {W w1 : World} {x : He} {o : Obj} (h : WkJ w B P lv q M W) (he : P[q]? = some x)
    (hrow : w1.ownsRow w.heap.size 36 3 v' (q + 1) (scs (P.take q) ++ x.sc)) (hg : (W.alloc o).grownBy w1 lv.ownBlock) (hat : v'.ownBlock = lv.ownBlock ∨ v'.ownBlock = some (W.heap.size + 1)) :
    WkJ w B P v' (q + 1) (fun k => k = w.heap.size + 1 + 1 + 1 ∨ v'.ownBlock = some k) (w1.setCell ⟨w.heap.size + 1 + 1 + 1, 0, none⟩ v') ∧ Kp M W (w1.setCell ⟨w.heap.size + 1 + 1 + 1, 0, none⟩ v') ∧ KeepsOthers W (w1.setCell ⟨w.heap.size + 1 + 1 + 1, 0, none⟩ v') ∧ w1.heap[w.heap.size + 1 + 1 + 1]? = some (.cells #[lv] 29 (0, 0)) ∧ (∀ k, v'.ownBlock = some k → lv.ownBlock = some k ∨ W.heap.size ≤ k) := by
  have hlk : ∀ k, lv.ownBlock = some k → w.heap.size ≤ k ∧ ∃ cur : Array Value, W.heap[k]? = some (.cells cur 36 (0, 0)) := fun k hk => ⟨(h.row.lt k hk).1, owns_kind h.row hk⟩
  have hc1 : Chg W w1 (fun k => lv.ownBlock = some k) := ((Chg.alloc W o _).trans (Chg.grown hg))
  have hbl1 : w1.heap[w.heap.size + 1 + 1 + 1]? = some (.cells #[lv] 29 (0, 0)) := by
    rw [hc1.block _ (lt_of_blk h.bl) (fun e => ?_)]
    · exact h.bl
    · obtain ⟨_, cur, hc⟩ := hlk _ e
      rw [h.bl] at hc
      cases hc
  have hc2 : Chg W (w1.setCell ⟨w.heap.size + 1 + 1 + 1, 0, none⟩ v') M := (hc1.mono (fun k _ e => (h.m k).2 (.inr e))).trans ((Chg.set w1 ⟨w.heap.size + 1 + 1 + 1, 0, none⟩ v').mono (fun k _ e => (h.m k).2 (.inl e)))
  have hM : ∀ k, M k → ∃ (cur : Array Value) (t : TypeId), W.heap[k]? = some (.cells cur t (0, 0)) ∧ (t = 36 ∨ t = 29) ∧ w.heap.size ≤ k := fun k hk => by
    rcases (h.m k).1 hk with rfl | e
    · exact ⟨_, _, h.bl, .inr rfl, by omega⟩
    · obtain ⟨h1, cur, hc⟩ := hlk _ e
      exact ⟨_, _, hc, .inl rfl, h1⟩
  have no : ∀ {k : Nat} {cs : Array Value} {t : TypeId} {fr : Nat × Nat}, W.heap[k]? = some (.cells cs t fr) → t ≠ 36 → t ≠ 29 → ¬ M k := fun hk h1 h2 hm => by
    obtain ⟨cur, t', hc, ht, _⟩ := hM _ hm
    rw [hk] at hc
    cases hc
    rcases ht with ht | ht
    · exact h1 ht
    · exact h2 ht
  have noM : ∀ {k : Nat}, k ≠ w.heap.size + 1 + 1 + 1 → lv.ownBlock ≠ some k → ¬ M k := fun h1 h2 hm => ((h.m _).1 hm).elim h1 h2
  have hl0 : lv.ownBlock ≠ some w.heap.size := fun e => by obtain ⟨_, cur, hc⟩ := hlk _ e; rw [h.b0] at hc; cases hc
  refine ⟨⟨?_, ?_, ?_, ?_, ?_, fun k => Iff.rfl, ?_⟩, Kp.of_chg hc2, ?_, hbl1, fun k hk => ?_⟩
  · rw [hc2.block _ (lt_of_blk h.b0) (noM (by omega) hl0)]; exact h.b0
  · rw [hc2.block _ (lt_of_blk h.b1) (no h.b1 (by decide) (by decide))]; exact h.b1
  · rw [hc2.block _ (lt_of_blk h.bb) (no h.bb (by decide) (by decide))]; exact h.bb
  · exact same_blk hbl1 rfl
  · rw [take_atX he, scs_append]
    have e1 : scs [x] = x.sc := by simp [scs]
    rw [e1]
    refine owns_same hrow (fun k hk => Below.heap_setCell _ _ _ k (fun e => ?_))
    obtain ⟨cur, hc⟩ := owns_kind hrow hk
    rw [show k = w.heap.size + 1 + 1 + 1 from e, hbl1] at hc
    cases hc
  · exact h.fr.trans (hc2.below h.fr.size (fun k _ hm => by obtain ⟨_, _, _, _, hle⟩ := hM k hm; exact hle))
  · refine ⟨hc2.size, fun k o' hk ho' => ?_⟩
    rw [hc2.block k (lt_of_blk hk) (fun hm => ?_)]
    · exact hk
    · obtain ⟨cur, t, hc, _⟩ := hM k hm
      rw [hk] at hc
      cases hc
      cases ho'
  · rcases hat with e | e
    · exact .inl (by rw [← e]; exact hk)
    · rw [e] at hk
      cases hk
      exact .inr (by omega)
theorem free_blkX {w : World} {b : Nat} {cs : Array Value} {t : TypeId} (h : w.heap[b]? = some (.cells cs t (0, 0))) (o : Nat) : w.frozen? ⟨b, o, none⟩ = false := by
  simp [World.frozen?, h]
set_option maxRecDepth 100000 in
set_option maxHeartbeats 6400000 in
theorem walkL_any (B : Nat) (y : Lay) (D : List Way) (σ : Option Nat) (τ : Int → Value) (hs : List He) (w : World) (hT : TrieAt w B y D σ τ hs) (hlen : hs.length ≤ 1000) :
    Calls Tryz.prog 11 #[ndV B] w fun e w' => ∃ v, e = .returned (.tuple #[v, .bool true]) ∧ w'.ownsRow w.heap.size 36 3 v (wkL D hs).length (scs (wkL D hs)) ∧ Below w.heap.size w w' := by
  have HX : Hid (TrieAt w B y D σ τ hs) := hT
  have heq := eql2_func_nil
  obtain ⟨i0, hi, hz0, hz1, hz2⟩ := info_parts Tryz.infoSt
  have hle := wk_le hT
  obtain ⟨P, hP⟩ : ∃ P, wkL D hs = P := ⟨_, rfl⟩
  have HP : Hid (wkL D hs = P) := hP
  have HHB : Hid (∀ h ∈ hs, h.b < w.heap.size) := fun h hh => lt_of_blk (hT.tr.held h hh)
  rw [hP] at hle
  have hP1 : P.length ≤ 1000 := by omega
  rw [hP]
  clear hT hle hP
  refine (callsIn_wide (n := 3)).1 ?_
  refine callsIn_of_wp_marks Tryz.func11 rfl trivial ?_ rfl
  simp only [Tryz.ntmps11, List.size_toArray, List.length_cons, List.length_nil, Nat.reduceAdd, Nat.reduceSub, Array.replicate_succ, Array.replicate_zero, List.push_toArray, List.append_toArray, List.nil_append, List.cons_append]
  gi_wp2_with (refine ⟨trivial, ?_⟩; gi_at_call 18; refine (callsIn_wide.2 (walk_func _ _)).mono ?_; rintro e w' ⟨rfl, rfl⟩)
  obtain ⟨W0, hW0⟩ : ∃ W0, ((((w.alloc (.cells #[.slice none 0 0] 29)).alloc (.cells #[.bool false] 4)).alloc (.cells #[ndV B] 26)).alloc (.cells #[.slice none 0 0] 29)) = W0 := ⟨_, rfl⟩
  have hb0 : Below w.heap.size w W0 := by rw [← hW0]; exact ((((Below.refl _ w).alloc (Nat.le_refl _) _).alloc (by simp) _).alloc (by simp; omega) _).alloc (by simp; omega) _
  have HJ0 : Hid (WkJ w B P (.slice none 0 0) 0 (fun k => k = w.heap.size + 1 + 1 + 1) W0) := by
    refine ⟨?_, ?_, ?_, ?_, World.ownsRow_nil _ _ _ _, fun k => ⟨fun h => .inl h, fun h => h.elim id (fun h => (by cases h))⟩, hb0⟩
    · rw [← hW0]; exact new_old (new_old (new_old (heap_alloc_new _ _) _) _) _
    · rw [← hW0]; exact new_old (new_old (heap_new' (by simp)) _) _
    · rw [← hW0]; exact new_old (heap_new' (by simp)) _
    · rw [← hW0]; exact heap_new' (by simp)
  have hsz : W0.heap.size = w.heap.size + 1 + 1 + 1 + 1 := by rw [← hW0]; simp
  have hB0 : w.heap.size ≤ W0.heap.size := by omega
  rw [hW0]
  refine wpIn_range_sa (σ := WkS) (α := He × World) rfl (by decide) (gf := 42) (lb := #[.pointer (some ⟨w.heap.size + 1 + 1, 0, none⟩)]) rfl trivial (enters_of Tryz.func42 (by kernel_rfl) rfl)
    (encs := fun x => #[.string x.1.p, tagV x.1.s x.1.i]) (fun _ => rfl)
    (I := WkI (fun q M W => ∃ lv, WkJ w B P lv q M W)) (Y := WkY P (fun q M W => ∃ lv, WkJ w B P lv q M W)) (N := WkN) (X := fun _ _ => False) (E := fun W => ∃ lv M, WkJ w B P lv P.length M W) (s0 := (0, W0, fun k => k = w.heap.size + 1 + 1 + 1))
    ?sq ?oI ?oY ?oX ?oE ?st
    (A := fun s x a' W => ∃ ge lv, P[s.1]? = some x.1 ∧ W.heap[ge]? = some (.cells #[.int .i64 x.1.s, .int .i64 x.1.i] 34 (0, 0)) ∧ W0.heap.size ≤ ge ∧ Kp NoB x.2 W ∧ WkJ w B P lv s.1 s.2.2 W ∧ a' = { tmps := #[ndV B, undef, .pointer (some ⟨w.heap.size, 0, none⟩), .pointer (some ⟨w.heap.size + 1, 0, none⟩), .func (.func 42) #[] #[.pointer (some ⟨w.heap.size + 1 + 1, 0, none⟩)], .pointer (some ⟨w.heap.size + 1 + 1 + 1, 0, none⟩), .string x.1.p, .pointer (some ⟨ge, 0, none⟩), ndV B, .func (.func 42) #[] #[.pointer (some ⟨w.heap.size + 1 + 1, 0, none⟩)], .func (.func 42) #[] #[.pointer (some ⟨w.heap.size + 1 + 1, 0, none⟩)], .bool false, .func (.func 42) #[] #[.pointer (some ⟨w.heap.size + 1 + 1, 0, none⟩)], .string x.1.p, tagV x.1.s x.1.i, undef, undef, undef, undef, undef, undef, undef, undef, undef, undef, undef], defers := [] }) ?oA ?assign ?body ?done ?stop
  case sq =>
    have h1 := walk_seq (3 - 1) B y D σ τ hs (w.heap.size + 1 + 1) W0.heap.size (fun k => k = w.heap.size + 1 + 1 + 1) (fun q M W => ∃ lv, WkJ w B P lv q M W) (fun _ _ => False) (fun W => ∃ lv M, WkJ w B P lv P.length M W) W0 hlen (by rw [HP.out]; exact fun M W ⟨lv, h⟩ => ⟨lv, M, h⟩) ⟨fun W ⟨lv, h⟩ => (by rw [cell_blkX h.bb]; rfl), fun W ⟨lv, h⟩ => HX.out.below h.fr, fun W ⟨lv, h⟩ k hk => ?_, fun q M W W' ⟨lv, h⟩ hb => ⟨lv, h.below hb⟩⟩
    · rw [HP.out] at h1
      exact h1
    · subst hk
      refine ⟨lt_of_blk h.bl, fun x hx e => ?_⟩
      have := HHB.out x hx
      omega
  case oI => exact fun s A C row hs hg hr => ⟨hs.1.grown hg hr, by obtain ⟨lv, h⟩ := hs.2; exact ⟨lv, h.grown hB0 hg hr⟩⟩
  case oY =>
    intro s x _ A C row hs hg hr
    obtain ⟨h1, ⟨lv, h2⟩, h3⟩ := hs
    exact ⟨h1.grown hg hr, ⟨lv, h2.grown hB0 hg hr⟩, h3⟩
  case oX => exact fun _ _ _ _ h => h.elim
  case oE => exact fun _ A C row ⟨lv, M, h⟩ hg hr => ⟨lv, M, h.grown hB0 hg hr⟩
  case st => exact ⟨Kp.refl _ _, _, HJ0.out⟩
  case oA =>
    intro s x a' _ A C row hs hg hr
    obtain ⟨ge, lv, h1, h4, h5, h6, h7, h8⟩ := hs
    have hk : Kp NoB A C := (Kp.refl NoB _).grown hg hr
    exact ⟨ge, lv, h1, hk.cells _ _ _ _ h4 (fun h => h), h5, h6.grown hg hr, h7.grown hB0 hg hr, h8⟩
  case assign =>
    rintro l s ⟨x, U⟩ W K ⟨h1, ⟨lv, h2⟩, h3⟩ hK
    simp only at h1 h2 h3
    have HK : Hid (∀ a' W', _ → KeepsFrom W0.heap.size W W' → K a' W') := hK
    have H1 : Hid (Kp NoB U W) := h1
    have H2 : Hid (WkJ w B P lv s.1 s.2.2 W) := h2
    have H3 : Hid (P[s.1]? = some x) := h3
    clear hK h1 h2 h3 heq
    gi_wp2
    have hbW : Below W.heap.size W (W.alloc (.cells #[.int .i64 x.s, .int .i64 x.i] 34)) := (Below.refl _ _).alloc (Nat.le_refl _) _
    refine HK.out _ _ ⟨W.heap.size, lv, H3.out, heap_alloc_new _ _, ?_, H1.out.trans (Kp.of_below hbW _), H2.out.below hbW, rfl⟩ (keeps_below hbW _)
    have := lt_of_blk H2.out.bl
    omega
  case body =>
    rintro l ⟨q, V, M⟩ ⟨x, U⟩ a' W hlB ⟨r, hr⟩ ⟨ge, lv, h1, h4, h5, h6, h7, rfl⟩
    simp only at h1 h4 h6 h7
    have hq : q < P.length := (List.getElem?_eq_some_iff.1 h1).1
    have hq64 : q < 1000 := by omega
    obtain ⟨la, lc, hlv⟩ := owns_shape h7.row
    subst hlv
    have c0 : W.cell? ⟨w.heap.size + 1 + 1 + 1, 0, none⟩ = some (.slice la q lc) := by rw [cell_blkX h7.bl]; rfl
    have f0 := free_blkX h7.bl
    obtain ⟨e0, e1⟩ := cells_2 h4
    have HT : Hid (WkJ w B P (.slice la q lc) q M W) := h7
    have H1 : Hid (P[q]? = some x) := h1
    have H6 : Hid (Kp NoB U W) := h6
    have HW : Hid (w.heap.size ≤ W.heap.size) := h7.fr.size
    clear h1 h4 h5 h6 h7 heq
    have HR0 : Hid ((W.alloc (.cells #[.string x.p, .int .i64 x.s, .int .i64 x.i] 36)).ownsRow w.heap.size 36 3 (.slice la q lc) q (scs (P.take q))) := HT.out.row.alloc _
    have HC0 : Hid (∀ j u, x.sc[j]? = some u → (W.alloc (.cells #[.string x.p, .int .i64 x.s, .int .i64 x.i] 36)).cell? ((⟨W.heap.size, 0, none⟩ : Addr).add j) = some u) := cells_newX W x.sc 36
    have hby : (q + 1) * 32 ≤ 140737488355328 := by omega
    have HMX : Hid (q + 1 ≤ maxLen) := by show _ ≤ _; unfold maxLen; omega
    have HWS : Hid (w.heap.size ≤ (W.alloc (.cells #[.string x.p, .int .i64 x.s, .int .i64 x.i] 36)).heap.size) := by show _ ≤ _; rw [World.size_alloc]; have := HW.out; omega
    gi_wp2_with (gi_at_builtin; refine wpListIn_append_own_at _ rfl _ _ 29 rfl w.heap.size 36 i0 (.agg #[.string ⟨#[]⟩, .int .i64 0, .int .i64 0]) 3 32 Tryz.underlying29 hi hz0 hz1 hz2 rfl (by decide) (.slice la q lc) q (scs (P.take q)) rfl HR0.out ⟨W.heap.size, 0, none⟩ 1 1 x.sc rfl rfl HC0.out (sc_one x) HMX.out hby HWS.out ?_)
    intro v' w1 hown' hgrow _ hat
    obtain ⟨la', lc', hv'⟩ := owns_shape hown'
    subst hv'
    obtain ⟨hj1, hj2, hj3, hj4, hj5⟩ := HT.out.put H1.out hown' hgrow hat
    have HJ1 : Hid (WkJ w B P (.slice la' (q + 1) lc') (q + 1) (fun k => k = w.heap.size + 1 + 1 + 1 ∨ (Value.slice la' (q + 1) lc').ownBlock = some k) (w1.setCell ⟨w.heap.size + 1 + 1 + 1, 0, none⟩ (.slice la' (q + 1) lc'))) := hj1
    have HJ2 : Hid (Kp M W (w1.setCell ⟨w.heap.size + 1 + 1 + 1, 0, none⟩ (.slice la' (q + 1) lc'))) := hj2
    have HJ3 : Hid (KeepsOthers W (w1.setCell ⟨w.heap.size + 1 + 1 + 1, 0, none⟩ (.slice la' (q + 1) lc'))) := hj3
    have HJ5 : Hid (∀ k, (Value.slice la' (q + 1) lc').ownBlock = some k → (Value.slice la q lc).ownBlock = some k ∨ W.heap.size ≤ k) := hj5
    have n1 : w1.cell? ⟨w.heap.size + 1 + 1 + 1, 0, none⟩ = some (.slice la q lc) := by rw [cell_blkX hj4]; rfl
    have n2 := free_blkX hj4
    have hq1 : ((q + 1 : Nat) : Int) ≤ 1000 := by omega
    clear hown' hgrow hat hj1 hj2 hj3 hj4 hj5 c0 f0 e0 e1
    gi_wp2
    refine ⟨HJ3.out.from _, (q + 1, w1.setCell ⟨w.heap.size + 1 + 1 + 1, 0, none⟩ (.slice la' (q + 1) lc'), fun k => k = w.heap.size + 1 + 1 + 1 ∨ (Value.slice la' (q + 1) lc').ownBlock = some k), ⟨rfl, (H6.out.mono (fun _ h => h.elim)).trans HJ2.out, fun k hk => ?_⟩, Kp.refl _ _, _, HJ1.out⟩
    rcases hk with hk | hk
    · exact .inl ((HT.out.m k).2 (.inl hk))
    · rcases HJ5.out k hk with h9 | h9
      · exact .inl ((HT.out.m k).2 (.inr h9))
      · exact .inr (Nat.le_trans H6.out.size h9)
  case done =>
    rintro D W hD ⟨lv, M, hT⟩ hK
    have c0 : W.cell? ⟨w.heap.size + 1 + 1 + 1, 0, none⟩ = some lv := by rw [cell_blkX hT.bl]; rfl
    have r0 : W.cell? ⟨w.heap.size, 0, none⟩ = some (.slice none 0 0) := by rw [cell_blkX hT.b0]; rfl
    have r1 : W.cell? ⟨w.heap.size + 1, 0, none⟩ = some (.bool false) := by rw [cell_blkX hT.b1]; rfl
    have f0 := free_blkX hT.b0
    have f1 := free_blkX hT.b1
    have HT : Hid (WkJ w B P lv P.length M W) := hT
    obtain ⟨la, lc, hlv⟩ := owns_shape hT.row
    subst hlv
    clear hT HJ0 heq
    gi_wp2
    have hD0 : D ≠ w.heap.size := by omega
    have hD1 : D ≠ w.heap.size + 1 := by omega
    have hKD : ((W.setCell ⟨w.heap.size, 0, none⟩ (.slice la P.length lc)).setCell ⟨w.heap.size + 1, 0, none⟩ (.bool true)).heap[D]? = some (.deferred (some [])) := other_blk (other_blk hK hD0) hD1
    refine ⟨by simp, .inl ⟨_, _, rfl, run_takeDeferred hKD, ?_⟩⟩
    have hbw : Below w.heap.size w (((W.setCell ⟨w.heap.size, 0, none⟩ (.slice la P.length lc)).setCell ⟨w.heap.size + 1, 0, none⟩ (.bool true)).putObj D (.deferred none)) := by
      have h1 : Below w.heap.size w ((W.setCell ⟨w.heap.size, 0, none⟩ (.slice la P.length lc)).setCell ⟨w.heap.size + 1, 0, none⟩ (.bool true)) := (HT.out.fr.setCell (Nat.le_refl _) _).setCell (Nat.le_succ _) _
      have h2 := grownBy_putObj' ((W.setCell ⟨w.heap.size, 0, none⟩ (.slice la P.length lc)).setCell ⟨w.heap.size + 1, 0, none⟩ (.bool true)) D (.deferred none)
      exact h1.grown h2 h1.size (fun j hj => by cases hj; omega)
    have hch : ∀ k, k ≠ w.heap.size → k ≠ w.heap.size + 1 → k ≠ D → (((W.setCell ⟨w.heap.size, 0, none⟩ (.slice la P.length lc)).setCell ⟨w.heap.size + 1, 0, none⟩ (.bool true)).putObj D (.deferred none)).heap[k]? = W.heap[k]? := fun k h1 h2 h3 => by
      rw [World.putObj_heap_other h3, Below.heap_setCell _ _ _ _ h2, Below.heap_setCell _ _ _ _ h1]
    have hk0 : ∀ k, (Value.slice la P.length lc).ownBlock = some k → k ≠ w.heap.size ∧ k ≠ w.heap.size + 1 ∧ k ≠ D := fun k hk => by
      obtain ⟨cur, hc⟩ := owns_kind HT.out.row hk
      refine ⟨fun e => ?_, fun e => ?_, fun e => ?_⟩
      · subst e; rw [HT.out.b0] at hc; cases hc
      · subst e; rw [HT.out.b1] at hc; cases hc
      · subst e; rw [hK] at hc; cases hc
    refine ⟨_, results_boxX rfl _ _ w.heap.size (w.heap.size + 1) (.slice la P.length lc) true rfl rfl ?_ ?_, .slice la P.length lc, rfl, ?_, hbw⟩
    · have h9 : (((W.setCell ⟨w.heap.size, 0, none⟩ (.slice la P.length lc)).setCell ⟨w.heap.size + 1, 0, none⟩ (.bool true)).putObj D (.deferred none)).heap[w.heap.size]? = some (.cells #[.slice la P.length lc] 29 (0, 0)) := by
        rw [World.putObj_heap_other (Ne.symm hD0)]
        exact other_blk (same_blk HT.out.b0 rfl) (by omega)
      rw [cell_blkX h9]; rfl
    · have h9 : (((W.setCell ⟨w.heap.size, 0, none⟩ (.slice la P.length lc)).setCell ⟨w.heap.size + 1, 0, none⟩ (.bool true)).putObj D (.deferred none)).heap[w.heap.size + 1]? = some (.cells #[.bool true] 4 (0, 0)) := by
        rw [World.putObj_heap_other (Ne.symm hD1)]
        exact same_blk (other_blk HT.out.b1 (by omega)) rfl
      rw [cell_blkX h9]; rfl
    · have h9 := HT.out.row
      rw [List.take_length] at h9
      exact owns_same h9 (fun k hk => hch k (hk0 k hk).1 (hk0 k hk).2.1 (hk0 k hk).2.2)
  case stop => exact fun _ _ _ _ h => h.elim
end Go.Proofs.YtbblckcjedjbcaaGreatDoor
