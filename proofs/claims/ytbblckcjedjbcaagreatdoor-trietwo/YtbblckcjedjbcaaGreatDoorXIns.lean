/-
  slices.Insert and slices.Delete of pointers to helds.
-/
import Derived.Laws.CopyOwn
import Derived.Laws.MakeOwn
import Derived.Laws.CopyRow
import Derived.Laws.IdiomCopy
import Derived.Lib.AppendZerosOnto
import Derived.Lib.Overlaps
import Derived.Deep.RegionLaw
import Derived.Deep.WholeRow
import Derived.Shelf.RegionOpenPlain
import Derived.Test.YtbblckcjedjbcaaGreatDoorXFind
namespace Go.Proofs.YtbblckcjedjbcaaGreatDoor
open Go.RowKit
set_option linter.unusedVariables false
set_option linter.unusedSimpArgs false

theorem Tryz.infoS : (Tryz.prog.info? 91).map (fun i => (i.zero, i.size, i.bytes)) = some (some (.pointer none), 1, 8) := by kernel_rfl
theorem ptrs_take (l : List He) (i : Nat) : (ptrs l).take i = ptrs (l.take i) := by simp [ptrs]
theorem ptrs_drop (l : List He) (i : Nat) : (ptrs l).drop i = ptrs (l.drop i) := by simp [ptrs]
theorem zerosP {n : Nat} : (Builtin.zeroCells #[.pointer none] n).size = n := by simp [Builtin.zeroCells]
theorem sizeH (w : World) : (Go.sizeOf 91).run Tryz.prog w = .ok 1 w := by
  obtain ⟨i0, hi, hz0, hz1, hz2⟩ := info_parts Tryz.infoS
  simp [Go.sizeOf, typeInfo, hi, hz1]
theorem append_types (ty : TypeId) (v x : Value) (w : World) : (Builtin.append_ #[76, 75] ty #[v, x]).run Tryz.prog w = (Builtin.append_ #[76, 76] ty #[v, x]).run Tryz.prog w := by
  unfold Builtin.append_
  cases v <;> simp [run_underlying Tryz.underlying76, run_underlying Tryz.underlying75, sizeH, Sem.run_bind]
theorem wpList_appH {w : World} {ops : Array Oper} {rest : List Oper} {o : Oper} {act : Act} {Q : Exit → Act → World → Prop} (hgd : o.guard = none) (s x : Operand)
    (ho : o.op = .call { callee := .builtin .append, args := #[s, x], argTypes := #[76, 75] }) (base : Nat) (v : Value) (n : Nat) (xs : List Value) (hs : act.eval s = v) (hown : w.ownsRow base 91 1 v n xs)
    (gx : Nat) (y : He) (hx : act.eval x = .slice (some ⟨gx, 0, none⟩) 1 1) (hby : w.heap[gx]? = some (.cells #[y.ptr] 91 (0, 0))) (hlen : n + 1 ≤ 1000000) (hB : base ≤ w.heap.size)
    (h : ∀ v' w', w'.ownsRow base 91 1 v' (n + 1) (xs ++ [y.ptr]) → w.grownBy w' v.ownBlock → (v'.ownBlock = v.ownBlock ∨ v'.ownBlock = some w.heap.size) → wpList Tryz.prog ops Q rest (act.put o.dst v') w') : wpList Tryz.prog ops Q (o :: rest) act w := by
  obtain ⟨i0, hi, hz0, hz1, hz2⟩ := info_parts Tryz.infoS
  refine wpList_plain hgd fun K hK => ?_
  obtain ⟨v', w', hr, h2, h3, h4, h5⟩ := run_append_own_at (P := Tryz.prog) w base 76 o.type 91 i0 _ 1 8 Tryz.underlying76 hi hz0 hz1 hz2 rfl (by decide) v n xs hown ⟨gx, 0, none⟩ 1 1 [y.ptr] rfl
    (fun j u hu => by
      cases j with
      | zero => simp at hu; subst hu; simp [World.cell?, hby, addr_add]
      | succ j => simp at hu)
    (fun u hu => by simp at hu; subst hu; rfl) (by unfold maxLen; omega) (by omega) hB
  rw [← append_types] at hr
  unfold Oper.wp execOp
  simp only [ho, resolve, invoke, builtin, Sem.run_bind, Sem.run_pure, Result.andThen_ok, List.map_toArray, List.map_cons, List.map_nil, hs, hx, hr]
  exact hK _ _ (h v' w' h2 h3 h5)
theorem szSI : (Tryz.prog.info? 91).map (fun i => (i.zero, i.size)) = some (some (.pointer none), 1) := by kernel_rfl
theorem run_clear_one (w : World) (g o : Nat) (cur : Array Value) (t : TypeId) (hg : w.heap[g]? = some (.cells cur t (0, 0))) (hfit : o + 1 ≤ cur.size) :
    ∃ cs : List Value, cs.length = 1 ∧ ∀ ty c, (Builtin.clear_ #[76] ty #[.slice (some ⟨g, o, none⟩) 1 c]).run Tryz.prog w = .ok (.tuple #[]) (w.setRow g (cur.toList.take o ++ cs ++ cur.toList.drop (o + 1)).toArray) := by
  have hz := (zero_of_info szSI).1
  obtain ⟨cs, hcs⟩ : ∃ cs, (Builtin.zeroCells (Value.cells (.pointer none)) 1).toList = cs := ⟨_, rfl⟩
  have hl : cs.length = 1 := by rw [← hcs]; simp [Builtin.zeroCells, Value.cells]
  have h1 : ∀ v ∈ cs, v.oneCell' = true := by
    intro v hv
    rw [← hcs] at hv
    simp [Builtin.zeroCells, Value.cells] at hv
    subst hv
    rfl
  have hst := run_storeCells_at Tryz.prog g o t cs 0 cur w hg (by simp; omega) h1
  refine ⟨cs, hl, fun ty c => ?_⟩
  rw [hl] at hst
  simp [Builtin.clear_, run_underlying Tryz.underlying76, hz, hcs, hst]

theorem run_copy_s {P : Program} (w : World) (dT sT ty elem : TypeId) (s g o dLen dCap : Nat) (a : Addr) (sLen sCap : Nat) (cur : Array Value) (t : TypeId) (cs : List Value)
    (hu : P.underlying dT = some (.slice elem)) (hs : (P.info? elem).map (·.size) = some s)
    (hg : w.heap[g]? = some (.cells cur t (0, 0))) (hn : cs.length = Nat.min sLen dLen * s)
    (hsrc : ∀ j v, cs[j]? = some v → w.cell? (a.add j) = some v) (hfit : o + cs.length ≤ cur.size) (h1 : ∀ v ∈ cs, v.oneCell' = true) :
    (Builtin.copy_ #[dT, sT] ty #[.slice (some ⟨g, o, none⟩) dLen dCap, .slice (some a) sLen sCap]).run P w =
      .ok (goInt (Nat.min sLen dLen)) (w.setRow g (cur.toList.take o ++ cs ++ cur.toList.drop (o + cs.length)).toArray) := by
  have hl := run_loadCells_list (P := P) w a cs hsrc
  have hst := run_storeCells_at P g o t cs 0 cur w hg (by simpa using hfit) h1
  rw [hn] at hl
  cases hq : P.info? elem with
  | none => simp [hq] at hs
  | some i =>
    have hi : i.size = s := by simpa [hq] using hs
    simp [Builtin.copy_, run_underlying hu, Builtin.lenOf, Builtin.firstCells, sizeOf, typeInfo, hq, hi, hl, hst]
theorem chg_setRow (w : World) (g : Nat) (cs : Array Value) : Chg w (w.setRow g cs) (fun k => k = g) :=
  ⟨rfl, rfl, rfl, by simp [World.setRow], fun k _ hn => setRow_other w g k cs hn⟩
theorem wpList_copy_runI {P : Program} (w : World) {ops : Array Oper} {rest : List Oper} {o : Oper} {a : Act} {Q : Exit → Act → World → Prop} (hgd : o.guard = none) (d s : Operand) (t t' : TypeId)
    (ho : o.op = .call { callee := .builtin .copy, args := #[d, s], argTypes := #[t, t'] }) (v u : Value) (hd : a.eval d = v) (hs : a.eval s = u) {v' : Value} {w' : World}
    (hr : (Builtin.copy_ #[t, t'] o.type #[v, u]).run P w = .ok v' w') (h : wpList P ops Q rest (a.put o.dst v') w') : wpList P ops Q (o :: rest) a w :=
  wpList_plain hgd fun _ hK => by
    unfold Oper.wp execOp
    simp only [ho, resolve, invoke, builtin, Sem.run_bind, Sem.run_pure, Result.andThen_ok, List.map_toArray, List.map_cons, List.map_nil, hd, hs, hr]
    exact hK _ _ h
theorem step_copy_runI {P : Program} {ops : Array Oper} {o : Oper} {a : Act} {w : World} {K : Act → World → Prop} {Q : Exit → Act → World → Prop} {E : Prop}
    (hg : o.guard = none) (d x : Operand) (dT sT : TypeId) (hop : o.op = Op.call { callee := Callee.builtin Builtin.copy, args := #[d, x], argTypes := #[dT, sT] })
    (v u : Value) (hd : a.eval d = v) (hx : a.eval x = u) {v' : Value} {w' : World} (hr : (Builtin.copy_ #[dT, sT] o.type #[v, u]).run P w = .ok v' w') (hK : K (a.put o.dst v') w') :
    if Region.wanted o (yielded ops a.tmps) = true then Oper.wp P o a w K Q else E := by
  have hw : Region.wanted o (yielded ops a.tmps) = true := by simp [Region.wanted, hg]
  rw [if_pos hw]
  unfold Oper.wp
  simp [execOp, hop, resolve, invoke, builtin, hd, hx, hr, Result.andThen]
  exact hK
/-- A row of nodes with room. -/
structure Rw (w : World) (g cap : Nat) (l : List He) (cur : List Value) : Prop where
  blk : w.heap[g]? = some (.cells cur.toArray 91 (0, 0))
  len : l.length ≤ cap
  max : cap ≤ maxLen
  size : cur.length = cap
  row : cur.take (l.length) = ptrs l
theorem Rw.cell {w : World} {g cap : Nat} {l : List He} {cur : List Value} (h : Rw w g cap l cur) {j : Nat} {v : Value} (hj : (ptrs l)[j]? = some v) : w.cell? ⟨g, j, none⟩ = some v := by
  have hb : w.cell? ⟨g, j, none⟩ = cur[j]? := by simp [World.cell?, h.blk]
  rw [hb]
  rw [← h.row, List.getElem?_take] at hj
  split at hj
  · exact hj
  · cases hj
theorem Rw.owns {w : World} {g cap base : Nat} {l : List He} {cur : List Value} (h : Rw w g cap l cur) (hb : base ≤ g) : w.ownsRow base 91 1 (.slice (some ⟨g, 0, none⟩) l.length cap) l.length (ptrs l) :=
  ⟨(by rw [ptrs_len, Nat.mul_one]), .inr ⟨g, cap, cur.toArray, rfl, hb, h.blk, h.len, h.max, by simpa using h.size, by simpa using h.row⟩⟩
theorem rw_of {w : World} {g cap base : Nat} {l : List He} (h : w.ownsRow base 91 1 (.slice (some ⟨g, 0, none⟩) l.length cap) l.length (ptrs l)) : ∃ cur, Rw w g cap l cur ∧ base ≤ g := by
  rcases h.2 with ⟨h0, _⟩ | ⟨g', cap', cur, hv, hB, hg, hn, hc, hs, ht⟩
  · cases h0
  · cases hv
    exact ⟨cur.toList, ⟨by simpa using hg, hn, hc, by simpa using hs, by simpa using ht⟩, hB⟩
theorem szS : (Tryz.prog.info? 91).map (·.size) = some 1 := by kernel_rfl
theorem sizeS (w : World) : (Go.sizeOf 91).run Tryz.prog w = .ok 1 w := by
  obtain ⟨i0, hi, hz0, hz1, hz2⟩ := info_parts Tryz.infoS
  simp [Go.sizeOf, typeInfo, hi, hz1]
theorem overlaps_no {w : World} {g gx : Nat} {cx cg : Array Value} {t t' : TypeId} (hgx : gx ≠ g) (hx : w.heap[gx]? = some (.cells cx t (0, 0))) (hg : w.heap[g]? = some (.cells cg t' (0, 0))) (h0 : cg.size ≠ 0) (o lb cb : Nat) :
    (callFunc 99 #[.slice (some ⟨gx, 0, none⟩) 1 1, .slice (some ⟨g, o, none⟩) lb cb]).run Tryz.prog w = .ok (.value (.bool false)) w := by
  rw [run_callFunc_extern Tryz.func99 (by kernel_rfl) (by kernel_rfl) (by kernel_rfl) (e := Extern.SlicesOverlaps.overlaps #[75, 75] #[4]) (by kernel_rfl),
    Lib.run_overlaps_apart w 75 4 91 Tryz.underlying75 1 sizeS ⟨gx, 0, none⟩ ⟨g, o, none⟩ 1 1 lb cb hgx t t' cx.size cg.size (by simp [World.shape?, hx]) (by simp [World.shape?, hg]) h0 (by simp [World.frozen?, hx]) (by simp [World.frozen?, hx])]
  rfl
set_option maxHeartbeats 8000000 in
set_option maxRecDepth 100000 in
theorem insert_shift (g cap gx i : Nat) (l : List He) (x : He) (cur : List Value) (w : World) (h : Rw w g cap l cur) (hi : i < l.length) (hroom : l.length + 1 ≤ cap) (hgx : gx ≠ g) (hx : w.heap[gx]? = some (.cells #[x.ptr] 91 (0, 0))) :
    Calls Tryz.prog 67 #[.slice (some ⟨g, 0, none⟩) l.length cap, .int .i64 i, .slice (some ⟨gx, 0, none⟩) 1 1] w fun e w' =>
      e = .returned (.slice (some ⟨g, 0, none⟩) (l.length + 1) cap) ∧ (∃ cur', Rw w' g cap (l.take i ++ x :: l.drop i) cur') ∧ Chg w w' (fun k => k = g) := by
  have hov := overlaps_no hgx hx h.blk (by rw [List.size_toArray]; have := h.size; omega)
  obtain ⟨cx, hcx⟩ : ∃ cx, cx = cur.take ((i + 1)) ++ ptrs (l.drop i) ++ cur.drop ((l.length + 1)) := ⟨_, rfl⟩
  have hdl : (ptrs (l.drop i)).length = (l.length - i) := by rw [ptrs_len, List.length_drop]
  have hsz := h.size
  have hcp1 : ∀ ty dc sc, (Builtin.copy_ #[76, 76] ty #[.slice (some ⟨g, (i + 1), none⟩) (l.length - i) dc, .slice (some ⟨g, i, none⟩) (l.length + 1 - i) sc]).run Tryz.prog w.drew = .ok (goInt ((l.length - i : Nat) : Int)) (w.drew.setRow g cx.toArray) := fun ty dc sc => by
    have h1 := run_copy_s (P := Tryz.prog) w.drew 76 76 ty 91 1 g ((i + 1)) (l.length - i) dc ⟨g, i, none⟩ (l.length + 1 - i) sc cur.toArray 91 (ptrs (l.drop i)) Tryz.underlying76 szS h.blk
      (by rw [hdl]; congr 1; simp only [Nat.min_def]; split <;> omega)
      (fun j v hj => by
        rw [addr_add]
        refine h.cell (w := w) ?_
        rw [← ptrs_drop, List.getElem?_drop] at hj
        exact hj)
      (by rw [hdl]; simp; omega) (fun v hv => ptrs_one _ v hv)
    have h2 : Nat.min (l.length + 1 - i) (l.length - i) = l.length - i := by simp only [Nat.min_def]; split <;> omega
    rw [h2] at h1
    rw [h1, hdl, hcx]
    simp only [List.toList_toArray]
    rw [show (i + 1) + (l.length - i) = (l.length + 1) by omega]
  have hcl : cx.length = cap := by rw [hcx]; simp [hdl]; omega
  obtain ⟨W1, hW1⟩ : ∃ W1, W1 = w.drew.setRow g cx.toArray := ⟨_, rfl⟩
  have hb1 : W1.heap[g]? = some (.cells cx.toArray 91 (0, 0)) := by rw [hW1]; exact setRow_heap w.drew g _ _ _ _ h.blk
  have hx1 : W1.heap[gx]? = some (.cells #[x.ptr] 91 (0, 0)) := by rw [hW1]; exact (setRow_other w.drew g gx _ hgx).trans hx
  rw [← hW1] at hcp1
  obtain ⟨cy, hcy⟩ : ∃ cy, cy = cx.take (i) ++ [x.ptr] ++ cx.drop (i + 1) := ⟨_, rfl⟩
  have hcp2 : ∀ ty dc, (Builtin.copy_ #[76, 75] ty #[.slice (some ⟨g, i, none⟩) (l.length + 1 - i) dc, .slice (some ⟨gx, 0, none⟩) 1 1]).run Tryz.prog W1 = .ok (goInt 1) (W1.setRow g cy.toArray) := fun ty dc => by
    have h1 := run_copy_s (P := Tryz.prog) W1 76 75 ty 91 1 g (i) (l.length + 1 - i) dc ⟨gx, 0, none⟩ 1 1 cx.toArray 91 [x.ptr] Tryz.underlying76 szS hb1
      (by rw [show Nat.min 1 (l.length + 1 - i) = 1 by simp only [Nat.min_def]; split <;> omega]; rfl)
      (fun j v hj => by
        rw [addr_add]
        simp only [World.cell?, hx1, Nat.zero_add]
        rw [List.getElem?_toArray]
        exact hj)
      (by simp [hcl]; omega) (fun v hv => ptrs_one [x] v (by simpa [ptrs] using hv))
    rw [show Nat.min 1 (l.length + 1 - i) = 1 by simp only [Nat.min_def]; split <;> omega] at h1
    rw [h1, hcy]
    simp
  have HEND : Hid ((∃ cur', Rw (W1.setRow g cy.toArray) g cap (l.take i ++ x :: l.drop i) cur') ∧ Chg w (W1.setRow g cy.toArray) (fun k => k = g)) := by
    refine ⟨⟨cy, ⟨setRow_heap W1 g _ _ _ _ hb1, by simp; omega, h.max, by rw [hcy]; simp [hcl]; omega, ?_⟩⟩, ?_⟩
    · have e1 : cx.take (i) = ptrs (l.take i) := by
        rw [hcx, List.append_assoc, List.take_append_of_le_length (by simp; omega), List.take_take, Nat.min_eq_left (by omega), ← ptrs_take, ← h.row, List.take_take, Nat.min_eq_left (by omega)]
      have e2 : cx.drop (i + 1) = ptrs (l.drop i) ++ cur.drop ((l.length + 1)) := by
        rw [hcx, List.append_assoc, List.drop_append_of_le_length (by simp; omega)]
        rw [List.drop_eq_nil_of_le (by simp; omega)]
        rfl
      have e3 : ptrs (l.take i ++ x :: l.drop i) = ptrs (l.take i) ++ [x.ptr] ++ ptrs (l.drop i) := by rw [ptrs_append]; simp [ptrs]
      rw [hcy, e1, e2, e3, ← List.append_assoc]
      have e4 : (l.take i ++ x :: l.drop i).length = (ptrs (l.take i) ++ [x.ptr] ++ ptrs (l.drop i)).length := by rw [← e3, ptrs_len]
      rw [e4, List.take_left]
    · rw [hW1]
      have h1 := (chg_setRow w.drew g cx.toArray).trans (chg_setRow _ g cy.toArray)
      exact ⟨h1.os, h1.tape, h1.output, h1.size, h1.block⟩
  subst hW1
  obtain ⟨n, hn⟩ : ∃ n, l.length = n := ⟨_, rfl⟩
  rw [hn] at hi hroom hcp1 hcp2 ⊢
  have hz2 : ¬ ((i : Int) = (n : Int)) := by omega
  have hmx := h.max
  unfold maxLen at hmx
  have hin : i ≤ n := by omega
  have hb2 : ¬ (cap = i + 1) := by omega
  have hb4 : ¬ (cap = i) := by omega
  have hb3 : (i : Int) ≤ (n : Int) + 1 := by omega
  have hcI : (n : Int) + 1 ≤ (cap : Int) := by omega
  have mixed : Tryz.prog.follows Departure.mixedOrders = true := by kernel_rfl
  have hw1 : IntKind.i64.wrap ((i : Int) + 1) = (i : Int) + 1 := by rw [IntKind.wrap_i64]; omega
  have hb1' : (0 : Int) ≤ (i : Int) + 1 := by omega
  have htn : ((i : Int) + 1).toNat = i + 1 := by omega
  have hb5 : (i : Int) ≤ (n : Int) := by omega
  clear hdl hsz hcl hb1 hx1 hcx hcy h hx hn
  go_enter Tryz.func67, Tryz.ntmps67
  go_wp2_with (simp only [hov])
  go_region_law_o (refine step_copy_runI rfl _ _ 76 76 rfl _ _ (by simp [Act.eval, Act.put]) (by simp [Act.eval, Act.put]) (hcp1 _ _ _) ?_)
  go_wp2_with (at_builtin; refine wpList_copy_runI _ rfl _ _ 76 75 rfl _ _ rfl rfl (hcp2 _ _) ?_)
  go_ret
  exact ⟨rfl, HEND.out⟩
theorem new_old_any (w : World) (o : Obj) (g : Nat) (h : g < w.heap.size) : (w.alloc o).heap[g]? = w.heap[g]? := ((Below.refl w.heap.size w).alloc (Nat.le_refl _) o).block g h
set_option maxHeartbeats 8000000 in
set_option maxRecDepth 100000 in
theorem insert_grow (g cap gx i : Nat) (l : List He) (x : He) (cur : List Value) (w : World) (h : Rw w g cap l cur) (hi : i < l.length) (hroom : cap < l.length + 1) (hl : l.length ≤ 100000) (hx : w.heap[gx]? = some (.cells #[x.ptr] 91 (0, 0))) :
    Calls Tryz.prog 67 #[.slice (some ⟨g, 0, none⟩) l.length cap, .int .i64 i, .slice (some ⟨gx, 0, none⟩) 1 1] w fun e w' =>
      ∃ cap', e = .returned (.slice (some ⟨w.heap.size, 0, none⟩) (l.length + 1) cap') ∧ (∃ cur', Rw w' w.heap.size cap' (l.take i ++ x :: l.drop i) cur') ∧ Below w.heap.size w w' := by
  have hsz := h.size
  have hlen := h.len
  obtain ⟨i0, hi0, hz0, hzs, hzb⟩ := info_parts Tryz.infoS
  have hgw : g < w.heap.size := lt_of_blk h.blk
  have hxw : gx < w.heap.size := lt_of_blk hx
  have hdl : (ptrs (l.drop i)).length = (l.length - i) := by rw [ptrs_len, List.length_drop]
  have htl : (ptrs (l.take i)).length = i := by rw [ptrs_len, List.length_take]; omega
  have hold : (Builtin.firstCells i0.size i (.slice (some ⟨g, 0, none⟩) i cap)).run Tryz.prog w.drew = .ok (ptrs (l.take i)).toArray w.drew := by
    rw [hzs]
    exact run_firstCells_some w.drew 1 i ⟨g, 0, none⟩ i cap (ptrs (l.take i)) (by rw [htl, Nat.mul_one]) (fun j v hj => by
      rw [addr_add, Nat.zero_add]
      refine h.cell (w := w) ?_
      rw [← ptrs_take, List.getElem?_take] at hj
      split at hj
      · exact hj
      · cases hj)
  obtain ⟨G, hG⟩ : ∃ G, G = grownCap w (l.length + 1) cap 91 := ⟨_, rfl⟩
  have hik : i + (l.length + 1 - i) = l.length + 1 := by omega
  obtain ⟨ROW, hROW⟩ : ∃ ROW : Array Value, ROW = (ptrs (l.take i)).toArray ++ Builtin.zeroCells #[.pointer none] (l.length + 1 - i) ++ Builtin.zeroCells #[.pointer none] (G - (l.length + 1)) := ⟨_, rfl⟩
  have hrz : ∀ ty, (Builtin.append_ #[76, 3] ty #[.slice (some ⟨g, 0, none⟩) i cap, .int .i64 ((l.length : Int) + 1 - (i : Int))]).run Tryz.prog w =
      .ok (.slice (some ⟨w.heap.size, 0, none⟩) (l.length + 1) G) (w.drew.alloc (.cells ROW 91)) := fun ty => by
    have h1 := Lib.run_append_grow_zeros w 76 3 ty 91 i0 _ .i64 .i64 Tryz.underlying76 Tryz.underlying3 hi0 hz0 (some ⟨g, 0, none⟩) i cap (ptrs (l.take i)) hold (l.length + 1 - i) (by omega) (by omega) (by omega) (by omega) (by rw [hzb]; omega) (by rw [hzb, hik]; exact growslice_fits hroom (by omega))
    rw [hik, ← hG] at h1
    rw [show (l.length : Int) + 1 - (i : Int) = ((l.length + 1 - i : Nat) : Int) by omega, hROW]
    exact h1
  have hGn : l.length + 1 ≤ G := by rw [hG]; exact grownCap_ge w _ _ _
  have hGm : G ≤ maxLen := by rw [hG]; exact grownCap_le_maxLen w (l.length + 1) cap 91 (by unfold maxLen; omega)
  have hRs : ROW.size = G := by
    rw [hROW]
    simp only [Array.size_append, List.size_toArray, htl, zerosP]
    omega
  have hRt : ROW.toList.take (i) = ptrs (l.take i) := by
    rw [hROW]
    simp only [Array.toList_append, List.append_assoc]
    exact List.take_left' htl
  clear hROW hold
  have hcell : ∀ j v, (ptrs l)[j]? = some v → w.cell? ⟨g, j, none⟩ = some v := fun j v hj => h.cell hj
  obtain ⟨cx, hcx⟩ : ∃ cx, cx = ROW.toList.take (i) ++ [x.ptr] ++ ROW.toList.drop (i + 1) := ⟨_, rfl⟩
  have hcl : cx.length = G := by rw [hcx]; simp [hRs]; omega
  have hcpA : ∀ W : World, W.heap[w.heap.size]? = some (.cells ROW 91 (0, 0)) → W.heap[gx]? = some (.cells #[x.ptr] 91 (0, 0)) → ∀ ty dc, (Builtin.copy_ #[76, 75] ty #[.slice (some ⟨w.heap.size, i, none⟩) (l.length + 1 - i) dc, .slice (some ⟨gx, 0, none⟩) 1 1]).run Tryz.prog W = .ok (goInt 1) (W.setRow w.heap.size cx.toArray) := fun W hb1 hx1 ty dc => by
    have h1 := run_copy_s (P := Tryz.prog) W 76 75 ty 91 1 w.heap.size (i) (l.length + 1 - i) dc ⟨gx, 0, none⟩ 1 1 ROW 91 [x.ptr] Tryz.underlying76 szS hb1
      (by rw [show Nat.min 1 (l.length + 1 - i) = 1 by simp only [Nat.min_def]; split <;> omega]; rfl)
      (fun j v hj => by
        rw [addr_add]
        simp only [World.cell?, hx1, Nat.zero_add]
        rw [List.getElem?_toArray]
        exact hj)
      (by simp [hRs]; omega) (fun v hv => ptrs_one [x] v (by simpa [ptrs] using hv))
    rw [show Nat.min 1 (l.length + 1 - i) = 1 by simp only [Nat.min_def]; split <;> omega] at h1
    rw [h1, hcx]
    simp
  obtain ⟨cy, hcy⟩ : ∃ cy, cy = cx.take ((i + 1)) ++ ptrs (l.drop i) ++ cx.drop ((l.length + 1)) := ⟨_, rfl⟩
  have hcpB : ∀ W : World, W.heap[w.heap.size]? = some (.cells cx.toArray 91 (0, 0)) → (∀ j v, (ptrs l)[j]? = some v → W.cell? ⟨g, j, none⟩ = some v) → ∀ ty dc sc, (Builtin.copy_ #[76, 76] ty #[.slice (some ⟨w.heap.size, (i + 1), none⟩) (l.length - i) dc, .slice (some ⟨g, i, none⟩) (l.length - i) sc]).run Tryz.prog W = .ok (goInt ((l.length - i : Nat) : Int)) (W.setRow w.heap.size cy.toArray) := fun W hb1 hc1 ty dc sc => by
    have h1 := run_copy_s (P := Tryz.prog) W 76 76 ty 91 1 w.heap.size ((i + 1)) (l.length - i) dc ⟨g, i, none⟩ (l.length - i) sc cx.toArray 91 (ptrs (l.drop i)) Tryz.underlying76 szS hb1
      (by rw [hdl]; congr 1; simp only [Nat.min_def]; split <;> omega)
      (fun j v hj => by
        rw [addr_add]
        refine hc1 _ _ ?_
        rw [← ptrs_drop, List.getElem?_drop] at hj
        exact hj)
      (by rw [hdl]; simp [hcl]; omega) (fun v hv => ptrs_one _ v hv)
    have h2 : Nat.min (l.length - i) (l.length - i) = l.length - i := by simp only [Nat.min_def]; split <;> omega
    rw [h2] at h1
    rw [h1, hdl, hcy]
    simp only [List.toList_toArray]
    rw [show (i + 1) + (l.length - i) = (l.length + 1) by omega]
  have HEND : Hid (∀ W : World, W.heap[w.heap.size]? = some (.cells cx.toArray 91 (0, 0)) → Below w.heap.size w W → (∃ cur', Rw (W.setRow w.heap.size cy.toArray) w.heap.size G (l.take i ++ x :: l.drop i) cur') ∧ Below w.heap.size w (W.setRow w.heap.size cy.toArray)) := fun W hb1 hbl => by
    refine ⟨⟨cy, ⟨setRow_heap W _ _ _ _ _ hb1, by simp; omega, hGm, by rw [hcy]; simp [hcl, hdl]; omega, ?_⟩⟩, ?_⟩
    · have e1 : cx.take ((i + 1)) = ptrs (l.take i) ++ [x.ptr] := by
        rw [hcx, hRt]
        have : (i + 1) = (ptrs (l.take i) ++ [x.ptr]).length := by rw [List.length_append, htl]; simp
        rw [this, List.take_left]
      have e3 : ptrs (l.take i ++ x :: l.drop i) = ptrs (l.take i) ++ [x.ptr] ++ ptrs (l.drop i) := by rw [ptrs_append]; simp [ptrs]
      rw [hcy, e1, e3]
      have e4 : (l.take i ++ x :: l.drop i).length = (ptrs (l.take i) ++ [x.ptr] ++ ptrs (l.drop i)).length := by rw [← e3, ptrs_len]
      rw [e4, List.take_left]
    · have hc := chg_setRow W w.heap.size cy.toArray
      refine ⟨hc.os.trans hbl.os, hc.tape.trans hbl.tape, hc.output.trans hbl.output, Nat.le_trans hbl.size hc.size, fun k hk => ?_⟩
      rw [setRow_other W w.heap.size k cy.toArray (by omega)]
      exact hbl.block k hk
  have HA1 : Hid (((w.alloc (.cells ROW 91)).drew).heap[w.heap.size]? = some (.cells ROW 91 (0, 0))) := heap_alloc_new w _
  have HA2 : Hid (((w.alloc (.cells ROW 91)).drew).heap[gx]? = some (.cells #[x.ptr] 91 (0, 0))) := new_old hx _
  have HA3 : Hid (∀ cs : Array Value, ∀ j v, (ptrs l)[j]? = some v → (((w.alloc (.cells ROW 91)).drew).setRow w.heap.size cs).cell? ⟨g, j, none⟩ = some v) := fun cs j v hj => by
    rw [World.cell?_of_block (w := w) ((setRow_other _ _ _ _ (show g ≠ w.heap.size by omega)).trans (new_old_any w _ g hgw))]
    exact hcell j v hj
  have HA4 : Hid (Below w.heap.size w (((w.alloc (.cells ROW 91)).drew).setRow w.heap.size cx.toArray)) := by
    have hbl : Below w.heap.size w ((w.alloc (.cells ROW 91)).drew) := below_drew ((Below.refl w.heap.size w).alloc (Nat.le_refl _) _)
    have hc := chg_setRow ((w.alloc (.cells ROW 91)).drew) w.heap.size cx.toArray
    refine ⟨hc.os.trans hbl.os, hc.tape.trans hbl.tape, hc.output.trans hbl.output, Nat.le_trans hbl.size hc.size, fun k hk => ?_⟩
    rw [setRow_other _ w.heap.size k cx.toArray (by omega)]
    exact hbl.block k hk
  have HA5 : Hid ((((w.alloc (.cells ROW 91)).drew).setRow w.heap.size cx.toArray).heap[w.heap.size]? = some (.cells cx.toArray 91 (0, 0))) := setRow_heap _ _ _ _ _ _ HA1.out
  obtain ⟨n, hn⟩ : ∃ n, l.length = n := ⟨_, rfl⟩
  rw [hn] at hi hroom hl hlen hcpA hcpB hrz hGn ⊢
  have hz2 : ¬ ((i : Int) = (n : Int)) := by omega
  have hmx := h.max
  unfold maxLen at hmx
  have hin : i ≤ n := by omega
  have hb4 : ¬ (cap = i) := by omega
  have hb5 : (i : Int) ≤ (n : Int) := by omega
  have hb6 : (cap : Int) < (n : Int) + 1 := by omega
  have hgm : G ≤ 9223372036854775807 := by unfold maxLen at hGm; omega
  have hGi : ¬ (G = i) := by omega
  have hGim : ¬ (G = i + 1) := by omega
  have hw1 : IntKind.i64.wrap ((i : Int) + 1) = (i : Int) + 1 := by rw [IntKind.wrap_i64]; omega
  have hb1' : (0 : Int) ≤ (i : Int) + 1 := by omega
  have htn : ((i : Int) + 1).toNat = i + 1 := by omega
  have hb7 : (i : Int) + 1 ≤ (n : Int) + 1 := by omega
  have mixed : Tryz.prog.follows Departure.mixedOrders = true := by kernel_rfl
  clear hdl htl hsz hcl hcx hcy h hx hn hRs hRt hG hi0 hz0 hzs hzb hcell hik hGm hmx hl hgw hxw
  go_enter Tryz.func67, Tryz.ntmps67
  have hcpA' := hcpA _ HA1.out HA2.out
  have hcpB' := hcpB (((w.alloc (.cells ROW 91)).drew).setRow w.heap.size cx.toArray).drew HA5.out (HA3.out _)
  clear hcpA hcpB
  go_wp2_with (at_builtin; refine Lib.wpList_append_run _ rfl _ _ _ _ rfl _ _ rfl rfl _ _ (hrz _) ?_)
  go_region_law_o (refine step_copy_runI rfl _ _ 76 76 rfl _ _ (by simp [Act.eval, Act.put]) (by simp [Act.eval, Act.put]) (hcpB' _ _ _) ?_)
  go_wp2_with fail
  go_ret
  exact ⟨_, rfl, HEND.out _ HA5.out (below_drew HA4.out)⟩

theorem owns_capA {w : World} {B e s n c : Nat} {a : Option Addr} {xs : List Value} (h : w.ownsRow B e s (.slice a n c) n xs) : n ≤ c ∧ c ≤ maxLen := by
  rcases h.2 with ⟨h0, h1⟩ | ⟨g, cap, cur, hv, _, _, hn, hc, _⟩
  · cases h0; exact ⟨Nat.le_refl _, Nat.zero_le _⟩
  · cases hv; exact ⟨hn, hc⟩
theorem step_append_runI {P : Program} {ops : Array Oper} {o : Oper} {a : Act} {w : World} {K : Act → World → Prop} {Q : Exit → Act → World → Prop} {E : Prop}
    (hg : o.guard = none) (d x : Operand) (dT sT : TypeId) (hop : o.op = Op.call { callee := Callee.builtin Builtin.append, args := #[d, x], argTypes := #[dT, sT] })
    (v u : Value) (hd : a.eval d = v) (hx : a.eval x = u) {v' : Value} {w' : World} (hr : (Builtin.append_ #[dT, sT] o.type #[v, u]).run P w = .ok v' w') (hK : K (a.put o.dst v') w') :
    if Region.wanted o (yielded ops a.tmps) = true then Oper.wp P o a w K Q else E := by
  have hw : Region.wanted o (yielded ops a.tmps) = true := by simp [Region.wanted, hg]
  rw [if_pos hw]
  unfold Oper.wp
  simp [execOp, hop, resolve, invoke, builtin, hd, hx, hr, Result.andThen]
  exact hK
set_option maxHeartbeats 8000000 in
set_option maxRecDepth 100000 in
theorem insert_end (base gx : Nat) (a : Option Addr) (cap : Nat) (l : List He) (x : He) (w : World) (ho : w.ownsRow base 91 1 (.slice a l.length cap) l.length (ptrs l)) (hl : l.length ≤ 100000) (hx : w.heap[gx]? = some (.cells #[x.ptr] 91 (0, 0))) (hB : base ≤ w.heap.size) :
    Calls Tryz.prog 67 #[.slice a l.length cap, .int .i64 l.length, .slice (some ⟨gx, 0, none⟩) 1 1] w fun e w' =>
      ∃ v', e = .returned v' ∧ w'.ownsRow base 91 1 v' (l.length + 1) (ptrs (l ++ [x])) ∧ Chg w w' (fun k => (Value.slice a l.length cap).ownBlock = some k) ∧ (∀ k, v'.ownBlock = some k → (Value.slice a l.length cap).ownBlock = some k ∨ w.heap.size ≤ k) := by
  have hle := (owns_capA ho).1
  have HO : Hid _ := ho
  have HX : Hid _ := hx
  have hmx := (owns_capA ho).2
  unfold maxLen at hmx
  obtain ⟨n, hn⟩ : ∃ n, l.length = n := ⟨_, rfl⟩
  have HN : Hid (l.length = n) := hn
  rw [hn] at HO hl hle ⊢
  clear ho hx hn
  have hz : (n : Int) = (n : Int) := rfl
  cases a with
  | none =>
    go_enter Tryz.func67, Tryz.ntmps67
    go_wp2_with (at_builtin; refine wpList_appH rfl _ _ rfl base _ n (ptrs l) rfl HO.out gx x rfl HX.out (by omega) hB ?_
                 intro v2 wn hon hgn hatn
                 have HON : Hid _ := hon
                 have HGN : Hid _ := Chg.grown hgn
                 have HAT : Hid _ := hatn
                 clear hon hgn hatn)
    go_ret
    exact ⟨v2, rfl, by rw [ptrs_append]; exact HON.out, HGN.out, fun k hk => HAT.out.imp (fun e => e.symm.trans hk) (fun e => by rw [hk] at e; cases e; exact Nat.le_refl _)⟩
  | some ad =>
    obtain ⟨g, rfl⟩ : ∃ g, ad = ⟨g, 0, none⟩ := by
      rcases HO.out.2 with ⟨h0, _⟩ | ⟨g', cap', cur, hv, _⟩
      · cases h0
      · cases hv; exact ⟨g', rfl⟩
    go_enter Tryz.func67, Tryz.ntmps67
    go_wp2_with (at_builtin; refine wpList_appH rfl _ _ rfl base _ n (ptrs l) rfl HO.out gx x rfl HX.out (by omega) hB ?_
                 intro v2 wn hon hgn hatn
                 have HON : Hid _ := hon
                 have HGN : Hid _ := Chg.grown hgn
                 have HAT : Hid _ := hatn
                 clear hon hgn hatn)
    all_goals (go_ret; exact ⟨v2, rfl, by rw [ptrs_append]; exact HON.out, HGN.out, fun k hk => HAT.out.imp (fun e => e.symm.trans hk) (fun e => by rw [hk] at e; cases e; exact Nat.le_refl _)⟩)
theorem insert_any (base gx i : Nat) (a : Option Addr) (cap : Nat) (l : List He) (x : He) (w : World) (ho : w.ownsRow base 91 1 (.slice a l.length cap) l.length (ptrs l)) (hi : i ≤ l.length) (hl : l.length ≤ 100000) (hx : w.heap[gx]? = some (.cells #[x.ptr] 91 (0, 0))) (hne : (Value.slice a l.length cap).ownBlock ≠ some gx) (hB : base ≤ w.heap.size) :
    Calls Tryz.prog 67 #[.slice a l.length cap, .int .i64 i, .slice (some ⟨gx, 0, none⟩) 1 1] w fun e w' =>
      ∃ v', e = .returned v' ∧ w'.ownsRow base 91 1 v' (l.length + 1) (ptrs (l.take i ++ x :: l.drop i)) ∧ Chg w w' (fun k => (Value.slice a l.length cap).ownBlock = some k) ∧ (∀ k, v'.ownBlock = some k → (Value.slice a l.length cap).ownBlock = some k ∨ w.heap.size ≤ k) := by
  by_cases he : i = l.length
  · subst he
    rw [List.take_length, List.drop_length]
    exact insert_end base gx a cap l x w ho hl hx hB
  · have hlt : i < l.length := by omega
    obtain ⟨g, rfl⟩ : ∃ g, a = some ⟨g, 0, none⟩ := by
      rcases ho.2 with ⟨h0, h1⟩ | ⟨g', cap', cur, hv, _⟩
      · omega
      · cases hv; exact ⟨g', rfl⟩
    obtain ⟨cur, hr, hbg⟩ := rw_of ho
    have hlen : (l.take i ++ x :: l.drop i).length = l.length + 1 := by simp; omega
    by_cases hroom : l.length + 1 ≤ cap
    · refine (insert_shift g cap gx i l x cur w hr hlt hroom (fun e => hne (by rw [e]; rfl)) hx).mono ?_
      rintro e w' ⟨rfl, ⟨cur', h'⟩, hc⟩
      refine ⟨_, rfl, ?_, hc.mono (fun k _ h => by rw [h]; rfl), fun k hk => .inl hk⟩
      have := h'.owns (base := base) hbg
      rw [hlen] at this
      exact this
    · refine (insert_grow g cap gx i l x cur w hr hlt (by omega) hl hx).mono ?_
      rintro e w' ⟨cap', rfl, ⟨cur', h'⟩, hb⟩
      refine ⟨_, rfl, ?_, ⟨hb.os, hb.tape, hb.output, hb.size, fun k hk _ => hb.block k hk⟩, fun k hk => .inr (by simp only [Value.ownBlock, Option.some.injEq] at hk; omega)⟩
      have := h'.owns (base := base) hB
      rw [hlen] at this
      exact this
set_option maxHeartbeats 8000000 in
set_option maxRecDepth 100000 in
theorem delete_any (g cap i : Nat) (l : List He) (cur : List Value) (w : World) (h : Rw w g cap l cur) (hi : i < l.length) :
    Calls Tryz.prog 73 #[.slice (some ⟨g, 0, none⟩) l.length cap, .int .i64 i, .int .i64 ((i : Int) + 1)] w fun e w' =>
      e = .returned (.slice (some ⟨g, 0, none⟩) (l.length - 1) cap) ∧ (∃ cur', Rw w' g cap (l.take i ++ l.drop (i + 1)) cur') ∧ Chg w w' (fun k => k = g) := by
  have hsz := h.size
  have hlen := h.len
  obtain ⟨i0, hi0, hz0, hzs, hzb⟩ := info_parts Tryz.infoS
  have hdl : (ptrs (l.drop (i + 1))).length = (l.length - (i + 1)) := by rw [ptrs_len, List.length_drop]
  obtain ⟨A, hA, hsrc⟩ : ∃ A : Addr, (if cap = i + 1 then some (⟨g, 0, none⟩ : Addr) else some ⟨g, (i + 1), none⟩) = some A ∧ ∀ j v, (ptrs (l.drop (i + 1)))[j]? = some v → w.cell? (A.add j) = some v := by
    by_cases hc : cap = i + 1
    · refine ⟨⟨g, 0, none⟩, by simp [hc], fun j v hj => ?_⟩
      have : (ptrs (l.drop (i + 1))).length = 0 := by rw [hdl]; omega
      rw [List.length_eq_zero_iff.1 this] at hj
      simp at hj
    · refine ⟨⟨g, (i + 1), none⟩, by simp [hc], fun j v hj => ?_⟩
      rw [addr_add]
      refine h.cell ?_
      rw [← ptrs_drop, List.getElem?_drop] at hj
      exact hj
  obtain ⟨cx, hcx⟩ : ∃ cx, cx = cur.take (i) ++ ptrs (l.drop (i + 1)) ++ cur.drop (i + (l.length - (i + 1))) := ⟨_, rfl⟩
  have hcl : cx.length = cap := by rw [hcx]; simp [hdl]; omega
  have hap : ∀ ty c, (Builtin.append_ #[76, 76] ty #[.slice (some ⟨g, 0, none⟩) i cap, .slice (some A) (l.length - (i + 1)) c]).run Tryz.prog w.drew = .ok (.slice (some ⟨g, 0, none⟩) (l.length - 1) cap) (w.drew.setRow g cx.toArray) := fun ty c => by
    have h1 := run_append_room (P := Tryz.prog) w.drew 76 ty 91 i0 Tryz.underlying76 hi0 g i cap cur.toArray h.blk A (l.length - (i + 1)) c (ptrs (l.drop (i + 1))) (by rw [hzs, hdl, Nat.mul_one]) hsrc (fun v hv => ptrs_one _ v hv) (by omega) (by rw [hzs, hdl]; simp; omega)
    rw [h1, hzs, hdl, hcx, Nat.mul_one, show i + (l.length - (i + 1)) = l.length - 1 by omega]
  obtain ⟨W1, hW1⟩ : ∃ W1, W1 = w.drew.setRow g cx.toArray := ⟨_, rfl⟩
  have hb1 : W1.heap[g]? = some (.cells cx.toArray 91 (0, 0)) := by rw [hW1]; exact setRow_heap w.drew g _ _ _ _ h.blk
  obtain ⟨cs, hcs, hcr⟩ : ∃ cs : List Value, cs.length = 1 ∧ ∀ ty c, (Builtin.clear_ #[76] ty #[.slice (some ⟨g, (l.length - 1), none⟩) 1 c]).run Tryz.prog W1 = .ok (.tuple #[]) (W1.setRow g (cx.take ((l.length - 1)) ++ cs ++ cx.drop ((l.length - 1) + 1)).toArray) := by
    have := run_clear_one W1 g ((l.length - 1)) cx.toArray 91 hb1 (by simp [hcl]; omega)
    simpa using this
  have HEND : Hid ((∃ cur', Rw (W1.setRow g (cx.take ((l.length - 1)) ++ cs ++ cx.drop ((l.length - 1) + 1)).toArray) g cap (l.take i ++ l.drop (i + 1)) cur') ∧ Chg w (W1.setRow g (cx.take ((l.length - 1)) ++ cs ++ cx.drop ((l.length - 1) + 1)).toArray) (fun k => k = g)) := by
    refine ⟨⟨_, ⟨setRow_heap W1 g _ _ _ _ hb1, by simp; omega, h.max, by simp [hcl, hcs]; omega, ?_⟩⟩, ?_⟩
    · have e0 : (l.take i ++ l.drop (i + 1)).length = l.length - 1 := by simp; omega
      have e1 : cur.take (i) = ptrs (l.take i) := by rw [← ptrs_take, ← h.row, List.take_take, Nat.min_eq_left (by omega)]
      have e2 : (ptrs (l.take i ++ l.drop (i + 1))).length = (l.length - 1) := by rw [ptrs_len, e0]
      rw [e0, List.append_assoc, List.take_append_of_le_length (by simp [hcl]; omega), List.take_take, Nat.min_self, hcx, e1, ← ptrs_append, ← e2, List.take_left]
    · rw [hW1]
      have h1 := (chg_setRow w.drew g cx.toArray).trans (chg_setRow _ g (cx.take ((l.length - 1)) ++ cs ++ cx.drop ((l.length - 1) + 1)).toArray)
      exact ⟨h1.os, h1.tape, h1.output, h1.size, h1.block⟩
  subst hW1
  obtain ⟨n, hn⟩ : ∃ n, l.length = n := ⟨_, rfl⟩
  rw [hn] at hi hlen hap hcr HEND ⊢
  have hmx := h.max
  unfold maxLen at hmx
  have hz2 : ¬ ((i : Int) = (i : Int) + 1) := by omega
  have hb1' : (0 : Int) ≤ (i : Int) + 1 := by omega
  have htn : ((i : Int) + 1).toNat = i + 1 := by omega
  have hb5 : (i : Int) ≤ (n : Int) := by omega
  have hb6 : (i : Int) + 1 ≤ (n : Int) := by omega
  have hb7 : (n : Int) ≤ (cap : Int) := by omega
  have hb8 : (i : Int) ≤ (i : Int) + 1 := by omega
  have hn1 : ¬ cap = n - 1 := by omega
  have hic : i ≤ cap := by omega
  have hn2 : n - (n - 1) = 1 := by omega
  have hn3 : ((n - 1 : Nat) : Int) ≤ (n : Int) := by omega
  have mixed : Tryz.prog.follows Departure.mixedOrders = true := by kernel_rfl
  clear hdl hsz hcl hb1 hcx h hn hi0 hz0 hzs hzb hsrc
  go_enter Tryz.func73, Tryz.ntmps73
  go_wp2_with fail
  go_region_law_o (refine step_append_runI rfl (.tmp 22) (.tmp 25) 76 76 rfl (.slice (some ⟨g, 0, none⟩) i cap) (.slice (some A) (n - (i + 1)) (cap - (i + 1))) (by simp [Act.eval, Act.put]) (by simp [Act.eval, Act.put]) (hap _ _) ?_)
  go_wp2_with fail
  go_ret
  exact ⟨rfl, by have := HEND.out; simp only [List.append_assoc] at this; exact this⟩
end Go.Proofs.YtbblckcjedjbcaaGreatDoor
