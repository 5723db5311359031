import Derived.Test.YtbamkdohaofgdaaGreatDoorSTurned
import Derived.Laws.CopyOwn
import Derived.Laws.MakeOwn
import Derived.Laws.CopyRow
import Derived.Laws.IdiomCopy
import Derived.Lib.AppendZerosOnto
import Derived.Lib.Overlaps
import Derived.Deep.RegionLaw
import Derived.Shelf.RegionOpenPlain
namespace Go.Proofs.YtbamkdohaofgdaaGreatDoor
open Go.RowKit
set_option linter.unusedVariables false
set_option linter.unusedSimpArgs false

theorem wpList_appS {w : World} {ops : Array Oper} {rest : List Oper} {o : Oper} {act : Act} {Q : Exit → Act → World → Prop} (hgd : o.guard = none) (s x : Operand)
    (ho : o.op = .call { callee := .builtin .append, args := #[s, x], argTypes := #[22, 22] }) (base : Nat) (v : Value) (n : Nat) (xs : List Value) (hs : act.eval s = v) (hown : w.ownsRow base 52 3 v n xs)
    (ad : Option Addr) (m c : Nat) (ys : List SeenT) (hx : act.eval x = .slice ad m c) (hm : m = ys.length) (hby : Ss w ad ys) (hn : ad = none → c = 0) (hlen : n + ys.length ≤ 1000000) (hB : base ≤ w.heap.size)
    (h : ∀ v' w', w'.ownsRow base 52 3 v' (n + ys.length) (xs ++ seCs ys) → w.grownBy w' v.ownBlock → (v'.ownBlock = v.ownBlock ∨ v'.ownBlock = some w.heap.size) → wpList Tryz.prog ops Q rest (act.put o.dst v') w') : wpList Tryz.prog ops Q (o :: rest) act w := by
  obtain ⟨i0, hi, hz0, hz1, hz2⟩ := info_parts Tryz.infoS
  subst hm
  cases ad with
  | none =>
    have hc0 := hn rfl
    subst hc0
    have hys : ys = [] := by
      rcases hby with h | ⟨b, o, h, _⟩
      · exact h
      · cases h
    subst hys
    refine wpList_append_own_none hgd s x 22 ho base 52 i0 3 Tryz.underlying22 hi _ _ _ hs hown hx ?_
    have := h v w (by simpa [seCs] using hown) ⟨rfl, rfl, rfl, Nat.le_refl _, fun _ _ _ => rfl⟩ (.inl rfl)
    exact this
  | some ad =>
    refine wpList_append_own_at _ hgd s x 22 ho base 52 i0 _ 3 40 Tryz.underlying22 hi hz0 hz1 hz2 rfl (by decide) v n xs hs hown ad ys.length c (seCs ys) hx (seCs_len _) (ss_news hby) (seCs_one _) (by unfold maxLen; omega) (by omega) hB ?_
    intro v' w' ho' hg' _ hat'
    exact h v' w' ho' hg' hat'
end Go.Proofs.YtbamkdohaofgdaaGreatDoor
namespace Go.Proofs.YtbamkdohaofgdaaGreatDoor
open Go.RowKit
set_option linter.unusedVariables false
set_option linter.unusedSimpArgs false

theorem run_copy_s {P : Program} (w : World) (dT sT ty elem : TypeId) (s g o dLen dCap : Nat) (a : Addr) (sLen sCap : Nat) (cur : Array Value) (t : TypeId) (cs : List Value)
    (hu : P.underlying dT = some (.slice elem)) (hs : (P.info? elem).map (·.size) = some s)
    (hg : w.heap[g]? = some (.cells cur t (0, 0))) (hn : cs.length = Nat.min sLen dLen * s)
    (hsrc : ∀ j v, cs[j]? = some v → w.cell? (a.add j) = some v) (hfit : o + cs.length ≤ cur.size) (h1 : ∀ v ∈ cs, v.oneCell' = true) :
    (Builtin.copy_ #[dT, sT] ty #[.slice (some ⟨g, o, none⟩) dLen dCap, .slice (some a) sLen sCap]).run P w =
      .ok (goInt (Nat.min sLen dLen)) (w.setRow g (cur.toList.take o ++ cs ++ cur.toList.drop (o + cs.length)).toArray) := by
  have hl := run_loadCells_list (P := P) w a cs hsrc
  have hst := run_storeCells_at P g o t cs 0 cur w hg (by simpa using hfit) h1
  rw [hn] at hl
  cases hq : P.info? elem with
  | none => simp [hq] at hs
  | some i =>
    have hi : i.size = s := by simpa [hq] using hs
    simp [Builtin.copy_, run_underlying hu, Builtin.lenOf, Builtin.firstCells, sizeOf, typeInfo, hq, hi, hl, hst]
theorem chg_setRow (w : World) (g : Nat) (cs : Array Value) : Chg w (w.setRow g cs) (fun k => k = g) :=
  ⟨rfl, rfl, rfl, by simp [World.setRow], fun k _ hn => setRow_other w g k cs hn⟩
theorem wpList_copy_runI {P : Program} (w : World) {ops : Array Oper} {rest : List Oper} {o : Oper} {a : Act} {Q : Exit → Act → World → Prop} (hgd : o.guard = none) (d s : Operand) (t t' : TypeId)
    (ho : o.op = .call { callee := .builtin .copy, args := #[d, s], argTypes := #[t, t'] }) (v u : Value) (hd : a.eval d = v) (hs : a.eval s = u) {v' : Value} {w' : World}
    (hr : (Builtin.copy_ #[t, t'] o.type #[v, u]).run P w = .ok v' w') (h : wpList P ops Q rest (a.put o.dst v') w') : wpList P ops Q (o :: rest) a w :=
  wpList_plain hgd fun _ hK => by
    unfold Oper.wp execOp
    simp only [ho, resolve, invoke, builtin, Sem.run_bind, Sem.run_pure, Result.andThen_ok, List.map_toArray, List.map_cons, List.map_nil, hd, hs, hr]
    exact hK _ _ h
theorem step_copy_runI {P : Program} {ops : Array Oper} {o : Oper} {a : Act} {w : World} {K : Act → World → Prop} {Q : Exit → Act → World → Prop} {E : Prop}
    (hg : o.guard = none) (d x : Operand) (dT sT : TypeId) (hop : o.op = Op.call { callee := Callee.builtin Builtin.copy, args := #[d, x], argTypes := #[dT, sT] })
    (v u : Value) (hd : a.eval d = v) (hx : a.eval x = u) {v' : Value} {w' : World} (hr : (Builtin.copy_ #[dT, sT] o.type #[v, u]).run P w = .ok v' w') (hK : K (a.put o.dst v') w') :
    if Region.wanted o (yielded ops a.tmps) = true then Oper.wp P o a w K Q else E := by
  have hw : Region.wanted o (yielded ops a.tmps) = true := by simp [Region.wanted, hg]
  rw [if_pos hw]
  unfold Oper.wp
  simp [execOp, hop, resolve, invoke, builtin, hd, hx, hr, Result.andThen]
  exact hK
theorem seCs_take (l : List SeenT) (i : Nat) : (seCs l).take (i * 3) = seCs (l.take i) := by
  induction l generalizing i with
  | nil => simp [seCs]
  | cons x r ih =>
    cases i with
    | zero => simp [seCs]
    | succ i =>
      have h1 : seCs (x :: r) = x.cells ++ seCs r := by simp [seCs]
      have h2 : seCs ((x :: r).take (i + 1)) = x.cells ++ seCs (r.take i) := by simp [seCs]
      rw [h1, h2, show (i + 1) * 3 = x.cells.length + i * 3 by simp; omega, List.take_length_add_append, ih]
theorem seCs_drop (l : List SeenT) (i : Nat) : (seCs l).drop (i * 3) = seCs (l.drop i) := by
  induction l generalizing i with
  | nil => simp [seCs]
  | cons x r ih =>
    cases i with
    | zero => simp
    | succ i =>
      have h1 : seCs (x :: r) = x.cells ++ seCs r := by simp [seCs]
      rw [h1, show (i + 1) * 3 = x.cells.length + i * 3 by simp; omega, List.drop_length_add_append, ih]
      simp
/-- A row of nodes with room. -/
structure Rw (w : World) (g cap : Nat) (l : List SeenT) (cur : List Value) : Prop where
  blk : w.heap[g]? = some (.cells cur.toArray 52 (0, 0))
  len : l.length ≤ cap
  max : cap ≤ maxLen
  size : cur.length = cap * 3
  row : cur.take (l.length * 3) = seCs l
theorem Rw.cell {w : World} {g cap : Nat} {l : List SeenT} {cur : List Value} (h : Rw w g cap l cur) {j : Nat} {v : Value} (hj : (seCs l)[j]? = some v) : w.cell? ⟨g, j, none⟩ = some v := by
  have hb : w.cell? ⟨g, j, none⟩ = cur[j]? := by simp [World.cell?, h.blk]
  rw [hb]
  rw [← h.row, List.getElem?_take] at hj
  split at hj
  · exact hj
  · cases hj
theorem Rw.owns {w : World} {g cap base : Nat} {l : List SeenT} {cur : List Value} (h : Rw w g cap l cur) (hb : base ≤ g) : w.ownsRow base 52 3 (.slice (some ⟨g, 0, none⟩) l.length cap) l.length (seCs l) :=
  ⟨seCs_len l, .inr ⟨g, cap, cur.toArray, rfl, hb, h.blk, h.len, h.max, by simpa using h.size, by simpa using h.row⟩⟩
theorem rw_of {w : World} {g cap base : Nat} {l : List SeenT} (h : w.ownsRow base 52 3 (.slice (some ⟨g, 0, none⟩) l.length cap) l.length (seCs l)) : ∃ cur, Rw w g cap l cur ∧ base ≤ g := by
  rcases h.2 with ⟨h0, _⟩ | ⟨g', cap', cur, hv, hB, hg, hn, hc, hs, ht⟩
  · cases h0
  · cases hv
    exact ⟨cur.toList, ⟨by simpa using hg, hn, hc, by simpa using hs, ht⟩, hB⟩
theorem szS : (Tryz.prog.info? 52).map (·.size) = some 3 := by kernel_rfl
theorem sizeS (w : World) : (Go.sizeOf 52).run Tryz.prog w = .ok 3 w := by
  obtain ⟨i0, hi, hz0, hz1, hz2⟩ := info_parts Tryz.infoS
  simp [Go.sizeOf, typeInfo, hi, hz1]
theorem overlaps_no {w : World} {g gx : Nat} {cx cg : Array Value} {t t' : TypeId} (hgx : gx ≠ g) (hx : w.heap[gx]? = some (.cells cx t (0, 0))) (hg : w.heap[g]? = some (.cells cg t' (0, 0))) (h0 : cg.size ≠ 0) (o lb cb : Nat) :
    (callFunc 69 #[.slice (some ⟨gx, 0, none⟩) 1 1, .slice (some ⟨g, o, none⟩) lb cb]).run Tryz.prog w = .ok (.value (.bool false)) w := by
  rw [run_callFunc_extern Tryz.func69 (by kernel_rfl) (by kernel_rfl) (by kernel_rfl) (e := Extern.SlicesOverlaps.overlaps #[22, 22] #[4]) (by kernel_rfl),
    Lib.run_overlaps_apart w 22 4 52 Tryz.underlying22 3 sizeS ⟨gx, 0, none⟩ ⟨g, o, none⟩ 1 1 lb cb hgx t t' cx.size cg.size (by simp [World.shape?, hx]) (by simp [World.shape?, hg]) h0 (by simp [World.frozen?, hx]) (by simp [World.frozen?, hx])]
  rfl
set_option maxHeartbeats 8000000 in
set_option maxRecDepth 100000 in
theorem insert_shift (g cap gx i : Nat) (l : List SeenT) (x : SeenT) (cur : List Value) (w : World) (h : Rw w g cap l cur) (hi : i < l.length) (hroom : l.length + 1 ≤ cap) (hgx : gx ≠ g) (hx : w.heap[gx]? = some (.cells x.cells.toArray 52 (0, 0))) :
    Calls Tryz.prog 40 #[.slice (some ⟨g, 0, none⟩) l.length cap, .int .i64 i, .slice (some ⟨gx, 0, none⟩) 1 1] w fun e w' =>
      e = .returned (.slice (some ⟨g, 0, none⟩) (l.length + 1) cap) ∧ (∃ cur', Rw w' g cap (l.take i ++ x :: l.drop i) cur') ∧ Chg w w' (fun k => k = g) := by
  have hov := overlaps_no hgx hx h.blk (by rw [List.size_toArray]; have := h.size; omega)
  obtain ⟨cx, hcx⟩ : ∃ cx, cx = cur.take ((i + 1) * 3) ++ seCs (l.drop i) ++ cur.drop ((l.length + 1) * 3) := ⟨_, rfl⟩
  have hdl : (seCs (l.drop i)).length = (l.length - i) * 3 := by rw [seCs_len, List.length_drop]
  have hsz := h.size
  have hcp1 : ∀ ty dc sc, (Builtin.copy_ #[22, 22] ty #[.slice (some ⟨g, (i + 1) * 3, none⟩) (l.length - i) dc, .slice (some ⟨g, i * 3, none⟩) (l.length + 1 - i) sc]).run Tryz.prog w.drew = .ok (goInt ((l.length - i : Nat) : Int)) (w.drew.setRow g cx.toArray) := fun ty dc sc => by
    have h1 := run_copy_s (P := Tryz.prog) w.drew 22 22 ty 52 3 g ((i + 1) * 3) (l.length - i) dc ⟨g, i * 3, none⟩ (l.length + 1 - i) sc cur.toArray 52 (seCs (l.drop i)) Tryz.underlying22 szS h.blk
      (by rw [hdl]; congr 1; simp only [Nat.min_def]; split <;> omega)
      (fun j v hj => by
        rw [addr_add]
        refine h.cell (w := w) ?_
        rw [← seCs_drop, List.getElem?_drop] at hj
        exact hj)
      (by rw [hdl]; simp; omega) (fun v hv => seCs_one _ v hv)
    have h2 : Nat.min (l.length + 1 - i) (l.length - i) = l.length - i := by simp only [Nat.min_def]; split <;> omega
    rw [h2] at h1
    rw [h1, hdl, hcx]
    simp only [List.toList_toArray]
    rw [show (i + 1) * 3 + (l.length - i) * 3 = (l.length + 1) * 3 by omega]
  have hcl : cx.length = cap * 3 := by rw [hcx]; simp [hdl]; omega
  obtain ⟨W1, hW1⟩ : ∃ W1, W1 = w.drew.setRow g cx.toArray := ⟨_, rfl⟩
  have hb1 : W1.heap[g]? = some (.cells cx.toArray 52 (0, 0)) := by rw [hW1]; exact setRow_heap w.drew g _ _ _ _ h.blk
  have hx1 : W1.heap[gx]? = some (.cells x.cells.toArray 52 (0, 0)) := by rw [hW1]; exact (setRow_other w.drew g gx _ hgx).trans hx
  rw [← hW1] at hcp1
  obtain ⟨cy, hcy⟩ : ∃ cy, cy = cx.take (i * 3) ++ x.cells ++ cx.drop (i * 3 + 3) := ⟨_, rfl⟩
  have hcp2 : ∀ ty dc, (Builtin.copy_ #[22, 22] ty #[.slice (some ⟨g, i * 3, none⟩) (l.length + 1 - i) dc, .slice (some ⟨gx, 0, none⟩) 1 1]).run Tryz.prog W1 = .ok (goInt 1) (W1.setRow g cy.toArray) := fun ty dc => by
    have h1 := run_copy_s (P := Tryz.prog) W1 22 22 ty 52 3 g (i * 3) (l.length + 1 - i) dc ⟨gx, 0, none⟩ 1 1 cx.toArray 52 x.cells Tryz.underlying22 szS hb1
      (by rw [show Nat.min 1 (l.length + 1 - i) = 1 by simp only [Nat.min_def]; split <;> omega]; rfl)
      (fun j v hj => by
        rw [addr_add]
        simp only [World.cell?, hx1, Nat.zero_add]
        rw [List.getElem?_toArray]
        exact hj)
      (by simp [hcl]; omega) (fun v hv => seCs_one [x] v (by simpa [seCs] using hv))
    rw [show Nat.min 1 (l.length + 1 - i) = 1 by simp only [Nat.min_def]; split <;> omega] at h1
    rw [h1, hcy]
    simp
  have HEND : Hid ((∃ cur', Rw (W1.setRow g cy.toArray) g cap (l.take i ++ x :: l.drop i) cur') ∧ Chg w (W1.setRow g cy.toArray) (fun k => k = g)) := by
    refine ⟨⟨cy, ⟨setRow_heap W1 g _ _ _ _ hb1, by simp; omega, h.max, by rw [hcy]; simp [hcl]; omega, ?_⟩⟩, ?_⟩
    · have e1 : cx.take (i * 3) = seCs (l.take i) := by
        rw [hcx, List.append_assoc, List.take_append_of_le_length (by simp; omega), List.take_take, Nat.min_eq_left (by omega), ← seCs_take, ← h.row, List.take_take, Nat.min_eq_left (by omega)]
      have e2 : cx.drop (i * 3 + 3) = seCs (l.drop i) ++ cur.drop ((l.length + 1) * 3) := by
        rw [hcx, List.append_assoc, List.drop_append_of_le_length (by simp; omega)]
        rw [List.drop_eq_nil_of_le (by simp; omega)]
        rfl
      have e3 : seCs (l.take i ++ x :: l.drop i) = seCs (l.take i) ++ x.cells ++ seCs (l.drop i) := by rw [seCs_append]; simp [seCs]
      rw [hcy, e1, e2, e3, ← List.append_assoc]
      have e4 : (l.take i ++ x :: l.drop i).length * 3 = (seCs (l.take i) ++ x.cells ++ seCs (l.drop i)).length := by rw [← e3, seCs_len]
      rw [e4, List.take_left]
    · rw [hW1]
      have h1 := (chg_setRow w.drew g cx.toArray).trans (chg_setRow _ g cy.toArray)
      exact ⟨h1.os, h1.tape, h1.output, h1.size, h1.block⟩
  subst hW1
  obtain ⟨n, hn⟩ : ∃ n, l.length = n := ⟨_, rfl⟩
  rw [hn] at hi hroom hcp1 hcp2 ⊢
  have hz2 : ¬ ((i : Int) = (n : Int)) := by omega
  have hmx := h.max
  unfold maxLen at hmx
  have hin : i ≤ n := by omega
  have hb2 : ¬ (cap = i + 1) := by omega
  have hb4 : ¬ (cap = i) := by omega
  have hb3 : (i : Int) ≤ (n : Int) + 1 := by omega
  have hcI : (n : Int) + 1 ≤ (cap : Int) := by omega
  have mixed : Tryz.prog.follows Departure.mixedOrders = true := by kernel_rfl
  have hw1 : IntKind.i64.wrap ((i : Int) + 1) = (i : Int) + 1 := by rw [IntKind.wrap_i64]; omega
  have hb1' : (0 : Int) ≤ (i : Int) + 1 := by omega
  have htn : ((i : Int) + 1).toNat = i + 1 := by omega
  have hb5 : (i : Int) ≤ (n : Int) := by omega
  clear hdl hsz hcl hb1 hx1 hcx hcy h hx hn
  go_enter Tryz.func40, Tryz.ntmps40
  go_wp2_with (simp only [hov])
  go_region_law_o (refine step_copy_runI rfl _ _ 22 22 rfl _ _ (by simp [Act.eval, Act.put]) (by simp [Act.eval, Act.put]) (hcp1 _ _ _) ?_)
  go_wp2_with (at_builtin; refine wpList_copy_runI _ rfl _ _ 22 22 rfl _ _ rfl rfl (hcp2 _ _) ?_)
  go_ret
  exact ⟨rfl, HEND.out⟩
theorem new_old_any (w : World) (o : Obj) (g : Nat) (h : g < w.heap.size) : (w.alloc o).heap[g]? = w.heap[g]? := ((Below.refl w.heap.size w).alloc (Nat.le_refl _) o).block g h
theorem zeros_row (z : Array Value) (n : Nat) (hz : z.size = 3) : (Builtin.zeroCells z n).size = n * 3 := by simp [Builtin.zeroCells, hz]
set_option maxHeartbeats 8000000 in
set_option maxRecDepth 100000 in
theorem insert_grow (g cap gx i : Nat) (l : List SeenT) (x : SeenT) (cur : List Value) (w : World) (h : Rw w g cap l cur) (hi : i < l.length) (hroom : cap < l.length + 1) (hl : l.length ≤ 100000) (hx : w.heap[gx]? = some (.cells x.cells.toArray 52 (0, 0))) :
    Calls Tryz.prog 40 #[.slice (some ⟨g, 0, none⟩) l.length cap, .int .i64 i, .slice (some ⟨gx, 0, none⟩) 1 1] w fun e w' =>
      ∃ cap', e = .returned (.slice (some ⟨w.heap.size, 0, none⟩) (l.length + 1) cap') ∧ (∃ cur', Rw w' w.heap.size cap' (l.take i ++ x :: l.drop i) cur') ∧ Below w.heap.size w w' := by
  have hsz := h.size
  have hlen := h.len
  obtain ⟨i0, hi0, hz0, hzs, hzb⟩ := info_parts Tryz.infoS
  have hgw : g < w.heap.size := lt_of_blk h.blk
  have hxw : gx < w.heap.size := lt_of_blk hx
  have hdl : (seCs (l.drop i)).length = (l.length - i) * 3 := by rw [seCs_len, List.length_drop]
  have htl : (seCs (l.take i)).length = i * 3 := by rw [seCs_len, List.length_take]; omega
  have hold : (Builtin.firstCells i0.size i (.slice (some ⟨g, 0, none⟩) i cap)).run Tryz.prog w.drew = .ok (seCs (l.take i)).toArray w.drew := by
    rw [hzs]
    exact run_firstCells_some w.drew 3 i ⟨g, 0, none⟩ i cap (seCs (l.take i)) htl (fun j v hj => by
      rw [addr_add, Nat.zero_add]
      refine h.cell (w := w) ?_
      rw [← seCs_take, List.getElem?_take] at hj
      split at hj
      · exact hj
      · cases hj)
  obtain ⟨G, hG⟩ : ∃ G, G = grownCap w (l.length + 1) cap 52 := ⟨_, rfl⟩
  have hik : i + (l.length + 1 - i) = l.length + 1 := by omega
  obtain ⟨ROW, hROW⟩ : ∃ ROW : Array Value, ROW = (seCs (l.take i)).toArray ++ Builtin.zeroCells (Value.agg #[.string ⟨#[]⟩, .string ⟨#[]⟩, .int .i64 0]).cells (l.length + 1 - i) ++ Builtin.zeroCells (Value.agg #[.string ⟨#[]⟩, .string ⟨#[]⟩, .int .i64 0]).cells (G - (l.length + 1)) := ⟨_, rfl⟩
  have hrz : ∀ ty, (Builtin.append_ #[22, 3] ty #[.slice (some ⟨g, 0, none⟩) i cap, .int .i64 ((l.length : Int) + 1 - (i : Int))]).run Tryz.prog w =
      .ok (.slice (some ⟨w.heap.size, 0, none⟩) (l.length + 1) G) (w.drew.alloc (.cells ROW 52)) := fun ty => by
    have h1 := Lib.run_append_grow_zeros w 22 3 ty 52 i0 _ .i64 .i64 Tryz.underlying22 Tryz.underlying3 hi0 hz0 (some ⟨g, 0, none⟩) i cap (seCs (l.take i)) hold (l.length + 1 - i) (by omega) (by omega) (by omega) (by omega) (by rw [hzb]; omega) (by rw [hzb, hik]; exact growslice_fits hroom (by omega))
    rw [hik, ← hG] at h1
    rw [show (l.length : Int) + 1 - (i : Int) = ((l.length + 1 - i : Nat) : Int) by omega, hROW]
    exact h1
  have hGn : l.length + 1 ≤ G := by rw [hG]; exact grownCap_ge w _ _ _
  have hGm : G ≤ maxLen := by rw [hG]; exact grownCap_le_maxLen w (l.length + 1) cap 52 (by unfold maxLen; omega)
  have hRs : ROW.size = G * 3 := by
    rw [hROW]
    simp only [Array.size_append, List.size_toArray, htl, zeros_row _ _ (show (Value.agg #[.string ⟨#[]⟩, .string ⟨#[]⟩, .int .i64 0]).cells.size = 3 from rfl)]
    omega
  have hRt : ROW.toList.take (i * 3) = seCs (l.take i) := by
    rw [hROW]
    simp only [Array.toList_append, List.append_assoc]
    rw [← htl, List.take_left]
  clear hROW hold
  have hcell : ∀ j v, (seCs l)[j]? = some v → w.cell? ⟨g, j, none⟩ = some v := fun j v hj => h.cell hj
  obtain ⟨cx, hcx⟩ : ∃ cx, cx = ROW.toList.take (i * 3) ++ x.cells ++ ROW.toList.drop (i * 3 + 3) := ⟨_, rfl⟩
  have hcl : cx.length = G * 3 := by rw [hcx]; simp [hRs]; omega
  have hcpA : ∀ W : World, W.heap[w.heap.size]? = some (.cells ROW 52 (0, 0)) → W.heap[gx]? = some (.cells x.cells.toArray 52 (0, 0)) → ∀ ty dc, (Builtin.copy_ #[22, 22] ty #[.slice (some ⟨w.heap.size, i * 3, none⟩) (l.length + 1 - i) dc, .slice (some ⟨gx, 0, none⟩) 1 1]).run Tryz.prog W = .ok (goInt 1) (W.setRow w.heap.size cx.toArray) := fun W hb1 hx1 ty dc => by
    have h1 := run_copy_s (P := Tryz.prog) W 22 22 ty 52 3 w.heap.size (i * 3) (l.length + 1 - i) dc ⟨gx, 0, none⟩ 1 1 ROW 52 x.cells Tryz.underlying22 szS hb1
      (by rw [show Nat.min 1 (l.length + 1 - i) = 1 by simp only [Nat.min_def]; split <;> omega]; rfl)
      (fun j v hj => by
        rw [addr_add]
        simp only [World.cell?, hx1, Nat.zero_add]
        rw [List.getElem?_toArray]
        exact hj)
      (by simp [hRs]; omega) (fun v hv => seCs_one [x] v (by simpa [seCs] using hv))
    rw [show Nat.min 1 (l.length + 1 - i) = 1 by simp only [Nat.min_def]; split <;> omega] at h1
    rw [h1, hcx]
    simp
  obtain ⟨cy, hcy⟩ : ∃ cy, cy = cx.take ((i + 1) * 3) ++ seCs (l.drop i) ++ cx.drop ((l.length + 1) * 3) := ⟨_, rfl⟩
  have hcpB : ∀ W : World, W.heap[w.heap.size]? = some (.cells cx.toArray 52 (0, 0)) → (∀ j v, (seCs l)[j]? = some v → W.cell? ⟨g, j, none⟩ = some v) → ∀ ty dc sc, (Builtin.copy_ #[22, 22] ty #[.slice (some ⟨w.heap.size, (i + 1) * 3, none⟩) (l.length - i) dc, .slice (some ⟨g, i * 3, none⟩) (l.length - i) sc]).run Tryz.prog W = .ok (goInt ((l.length - i : Nat) : Int)) (W.setRow w.heap.size cy.toArray) := fun W hb1 hc1 ty dc sc => by
    have h1 := run_copy_s (P := Tryz.prog) W 22 22 ty 52 3 w.heap.size ((i + 1) * 3) (l.length - i) dc ⟨g, i * 3, none⟩ (l.length - i) sc cx.toArray 52 (seCs (l.drop i)) Tryz.underlying22 szS hb1
      (by rw [hdl]; congr 1; simp only [Nat.min_def]; split <;> omega)
      (fun j v hj => by
        rw [addr_add]
        refine hc1 _ _ ?_
        rw [← seCs_drop, List.getElem?_drop] at hj
        exact hj)
      (by rw [hdl]; simp [hcl]; omega) (fun v hv => seCs_one _ v hv)
    have h2 : Nat.min (l.length - i) (l.length - i) = l.length - i := by simp only [Nat.min_def]; split <;> omega
    rw [h2] at h1
    rw [h1, hdl, hcy]
    simp only [List.toList_toArray]
    rw [show (i + 1) * 3 + (l.length - i) * 3 = (l.length + 1) * 3 by omega]
  have HEND : Hid (∀ W : World, W.heap[w.heap.size]? = some (.cells cx.toArray 52 (0, 0)) → Below w.heap.size w W → (∃ cur', Rw (W.setRow w.heap.size cy.toArray) w.heap.size G (l.take i ++ x :: l.drop i) cur') ∧ Below w.heap.size w (W.setRow w.heap.size cy.toArray)) := fun W hb1 hbl => by
    refine ⟨⟨cy, ⟨setRow_heap W _ _ _ _ _ hb1, by simp; omega, hGm, by rw [hcy]; simp [hcl, hdl]; omega, ?_⟩⟩, ?_⟩
    · have e1 : cx.take ((i + 1) * 3) = seCs (l.take i) ++ x.cells := by
        rw [hcx, hRt]
        have : (i + 1) * 3 = (seCs (l.take i) ++ x.cells).length := by rw [List.length_append, htl]; simp; omega
        rw [this, List.take_left]
      have e3 : seCs (l.take i ++ x :: l.drop i) = seCs (l.take i) ++ x.cells ++ seCs (l.drop i) := by rw [seCs_append]; simp [seCs]
      rw [hcy, e1, e3]
      have e4 : (l.take i ++ x :: l.drop i).length * 3 = (seCs (l.take i) ++ x.cells ++ seCs (l.drop i)).length := by rw [← e3, seCs_len]
      rw [e4, List.take_left]
    · have hc := chg_setRow W w.heap.size cy.toArray
      refine ⟨hc.os.trans hbl.os, hc.tape.trans hbl.tape, hc.output.trans hbl.output, Nat.le_trans hbl.size hc.size, fun k hk => ?_⟩
      rw [setRow_other W w.heap.size k cy.toArray (by omega)]
      exact hbl.block k hk
  have HA1 : Hid (((w.alloc (.cells ROW 52)).drew).heap[w.heap.size]? = some (.cells ROW 52 (0, 0))) := heap_alloc_new w _
  have HA2 : Hid (((w.alloc (.cells ROW 52)).drew).heap[gx]? = some (.cells x.cells.toArray 52 (0, 0))) := new_old hx _
  have HA3 : Hid (∀ cs : Array Value, ∀ j v, (seCs l)[j]? = some v → (((w.alloc (.cells ROW 52)).drew).setRow w.heap.size cs).cell? ⟨g, j, none⟩ = some v) := fun cs j v hj => by
    rw [World.cell?_of_block (w := w) ((setRow_other _ _ _ _ (show g ≠ w.heap.size by omega)).trans (new_old_any w _ g hgw))]
    exact hcell j v hj
  have HA4 : Hid (Below w.heap.size w (((w.alloc (.cells ROW 52)).drew).setRow w.heap.size cx.toArray)) := by
    have hbl : Below w.heap.size w ((w.alloc (.cells ROW 52)).drew) := below_drew ((Below.refl w.heap.size w).alloc (Nat.le_refl _) _)
    have hc := chg_setRow ((w.alloc (.cells ROW 52)).drew) w.heap.size cx.toArray
    refine ⟨hc.os.trans hbl.os, hc.tape.trans hbl.tape, hc.output.trans hbl.output, Nat.le_trans hbl.size hc.size, fun k hk => ?_⟩
    rw [setRow_other _ w.heap.size k cx.toArray (by omega)]
    exact hbl.block k hk
  have HA5 : Hid ((((w.alloc (.cells ROW 52)).drew).setRow w.heap.size cx.toArray).heap[w.heap.size]? = some (.cells cx.toArray 52 (0, 0))) := setRow_heap _ _ _ _ _ _ HA1.out
  obtain ⟨n, hn⟩ : ∃ n, l.length = n := ⟨_, rfl⟩
  rw [hn] at hi hroom hl hlen hcpA hcpB hrz hGn ⊢
  have hz2 : ¬ ((i : Int) = (n : Int)) := by omega
  have hmx := h.max
  unfold maxLen at hmx
  have hin : i ≤ n := by omega
  have hb4 : ¬ (cap = i) := by omega
  have hb5 : (i : Int) ≤ (n : Int) := by omega
  have hb6 : (cap : Int) < (n : Int) + 1 := by omega
  have hgm : G ≤ 9223372036854775807 := by unfold maxLen at hGm; omega
  have hGi : ¬ (G = i) := by omega
  have hGim : ¬ (G = i + 1) := by omega
  have hw1 : IntKind.i64.wrap ((i : Int) + 1) = (i : Int) + 1 := by rw [IntKind.wrap_i64]; omega
  have hb1' : (0 : Int) ≤ (i : Int) + 1 := by omega
  have htn : ((i : Int) + 1).toNat = i + 1 := by omega
  have hb7 : (i : Int) + 1 ≤ (n : Int) + 1 := by omega
  have mixed : Tryz.prog.follows Departure.mixedOrders = true := by kernel_rfl
  clear hdl htl hsz hcl hcx hcy h hx hn hRs hRt hG hi0 hz0 hzs hzb hcell hik hGm hmx hl hgw hxw
  go_enter Tryz.func40, Tryz.ntmps40
  have hcpA' := hcpA _ HA1.out HA2.out
  have hcpB' := hcpB (((w.alloc (.cells ROW 52)).drew).setRow w.heap.size cx.toArray).drew HA5.out (HA3.out _)
  clear hcpA hcpB
  go_wp2_with (at_builtin; refine Lib.wpList_append_run _ rfl _ _ _ _ rfl _ _ rfl rfl _ _ (hrz _) ?_)
  go_region_law_o (refine step_copy_runI rfl _ _ 22 22 rfl _ _ (by simp [Act.eval, Act.put]) (by simp [Act.eval, Act.put]) (hcpB' _ _ _) ?_)
  go_wp2_with fail
  go_ret
  exact ⟨_, rfl, HEND.out _ HA5.out (below_drew HA4.out)⟩
end Go.Proofs.YtbamkdohaofgdaaGreatDoor
