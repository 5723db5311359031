/-
  slices.Insert anywhere; slices.Delete.
-/
import Derived.Deep.WholeRow
import Derived.Test.YtaieijbdknfcjaaGreatDoorGRow
namespace Go.Proofs.YtaieijbdknfcjaaGreatDoor
open Go.RowKit
set_option linter.unusedVariables false
set_option linter.unusedSimpArgs false

theorem owns_capA {w : World} {B e s n c : Nat} {a : Option Addr} {xs : List Value} (h : w.ownsRow B e s (.slice a n c) n xs) : n ≤ c ∧ c ≤ maxLen := by
  rcases h.2 with ⟨h0, h1⟩ | ⟨g, cap, cur, hv, _, _, hn, hc, _⟩
  · cases h0; exact ⟨Nat.le_refl _, Nat.zero_le _⟩
  · cases hv; exact ⟨hn, hc⟩
theorem step_append_runI {P : Program} {ops : Array Oper} {o : Oper} {a : Act} {w : World} {K : Act → World → Prop} {Q : Exit → Act → World → Prop} {E : Prop}
    (hg : o.guard = none) (d x : Operand) (dT sT : TypeId) (hop : o.op = Op.call { callee := Callee.builtin Builtin.append, args := #[d, x], argTypes := #[dT, sT] })
    (v u : Value) (hd : a.eval d = v) (hx : a.eval x = u) {v' : Value} {w' : World} (hr : (Builtin.append_ #[dT, sT] o.type #[v, u]).run P w = .ok v' w') (hK : K (a.put o.dst v') w') :
    if Region.wanted o (yielded ops a.tmps) = true then Oper.wp P o a w K Q else E := by
  have hw : Region.wanted o (yielded ops a.tmps) = true := by simp [Region.wanted, hg]
  rw [if_pos hw]
  unfold Oper.wp
  simp [execOp, hop, resolve, invoke, builtin, hd, hx, hr, Result.andThen]
  exact hK
set_option maxHeartbeats 8000000 in
set_option maxRecDepth 100000 in
theorem insert_end (base gx : Nat) (a : Option Addr) (cap : Nat) (l : List SeenT) (x : SeenT) (w : World) (ho : w.ownsRow base 36 3 (.slice a l.length cap) l.length (seCs l)) (hl : l.length ≤ 100000) (hx : w.heap[gx]? = some (.cells x.cells.toArray 36 (0, 0))) (hB : base ≤ w.heap.size) :
    Calls Tryz.prog 34 #[.slice a l.length cap, .int .i64 l.length, .slice (some ⟨gx, 0, none⟩) 1 1] w fun e w' =>
      ∃ v', e = .returned v' ∧ w'.ownsRow base 36 3 v' (l.length + 1) (seCs (l ++ [x])) ∧ Chg w w' (fun k => (Value.slice a l.length cap).ownBlock = some k) := by
  have hle := (owns_capA ho).1
  have HO : Hid _ := ho
  have HX : Hid (Ss w (some ⟨gx, 0, none⟩) [x]) := .inr ⟨gx, 0, rfl, lt_of_blk hx, fun i s hi j y hy => by
    cases i with
    | zero =>
      simp at hi
      subst hi
      simp only [World.cell?, hx, Nat.zero_add, Nat.zero_mul]
      rw [List.getElem?_toArray]
      exact hy
    | succ i => simp at hi⟩
  have hmx := (owns_capA ho).2
  unfold maxLen at hmx
  obtain ⟨n, hn⟩ : ∃ n, l.length = n := ⟨_, rfl⟩
  have HN : Hid (l.length = n) := hn
  rw [hn] at HO hl hle ⊢
  clear ho hx hn
  have hz : (n : Int) = (n : Int) := rfl
  cases a with
  | none =>
    go_enter Tryz.func34, Tryz.ntmps34
    go_wp2_with (at_builtin; refine wpList_appS rfl _ _ rfl base _ n (seCs l) rfl HO.out (some ⟨gx, 0, none⟩) 1 1 [x] rfl rfl HX.out (fun h => by cases h) (by simp; omega) hB ?_
                 intro v2 wn hon hgn hatn
                 have HON : Hid _ := hon
                 have HGN : Hid _ := Chg.grown hgn
                 clear hon hgn hatn)
    go_ret
    exact ⟨v2, rfl, by rw [seCs_append]; exact HON.out, HGN.out⟩
  | some ad =>
    obtain ⟨g, rfl⟩ : ∃ g, ad = ⟨g, 0, none⟩ := by
      rcases HO.out.2 with ⟨h0, _⟩ | ⟨g', cap', cur, hv, _⟩
      · cases h0
      · cases hv; exact ⟨g', rfl⟩
    go_enter Tryz.func34, Tryz.ntmps34
    go_wp2_with (at_builtin; refine wpList_appS rfl _ _ rfl base _ n (seCs l) rfl HO.out (some ⟨gx, 0, none⟩) 1 1 [x] rfl rfl HX.out (fun h => by cases h) (by simp; omega) hB ?_
                 intro v2 wn hon hgn hatn
                 have HON : Hid _ := hon
                 have HGN : Hid _ := Chg.grown hgn
                 clear hon hgn hatn)
    all_goals (go_ret; exact ⟨v2, rfl, by rw [seCs_append]; exact HON.out, HGN.out⟩)
theorem insert_any (base gx i : Nat) (a : Option Addr) (cap : Nat) (l : List SeenT) (x : SeenT) (w : World) (ho : w.ownsRow base 36 3 (.slice a l.length cap) l.length (seCs l)) (hi : i ≤ l.length) (hl : l.length ≤ 100000) (hx : w.heap[gx]? = some (.cells x.cells.toArray 36 (0, 0))) (hne : (Value.slice a l.length cap).ownBlock ≠ some gx) (hB : base ≤ w.heap.size) :
    Calls Tryz.prog 34 #[.slice a l.length cap, .int .i64 i, .slice (some ⟨gx, 0, none⟩) 1 1] w fun e w' =>
      ∃ v', e = .returned v' ∧ w'.ownsRow base 36 3 v' (l.length + 1) (seCs (l.take i ++ x :: l.drop i)) ∧ Chg w w' (fun k => (Value.slice a l.length cap).ownBlock = some k) := by
  by_cases he : i = l.length
  · subst he
    rw [List.take_length, List.drop_length]
    exact insert_end base gx a cap l x w ho hl hx hB
  · have hlt : i < l.length := by omega
    obtain ⟨g, rfl⟩ : ∃ g, a = some ⟨g, 0, none⟩ := by
      rcases ho.2 with ⟨h0, h1⟩ | ⟨g', cap', cur, hv, _⟩
      · omega
      · cases hv; exact ⟨g', rfl⟩
    obtain ⟨cur, hr, hbg⟩ := rw_of ho
    have hlen : (l.take i ++ x :: l.drop i).length = l.length + 1 := by simp; omega
    by_cases hroom : l.length + 1 ≤ cap
    · refine (insert_shift g cap gx i l x cur w hr hlt hroom (fun e => hne (by rw [e]; rfl)) hx).mono ?_
      rintro e w' ⟨rfl, ⟨cur', h'⟩, hc⟩
      refine ⟨_, rfl, ?_, hc.mono (fun k _ h => by rw [h]; rfl)⟩
      have := h'.owns (base := base) hbg
      rw [hlen] at this
      exact this
    · refine (insert_grow g cap gx i l x cur w hr hlt (by omega) hl hx).mono ?_
      rintro e w' ⟨cap', rfl, ⟨cur', h'⟩, hb⟩
      refine ⟨_, rfl, ?_, ⟨hb.os, hb.tape, hb.output, hb.size, fun k hk _ => hb.block k hk⟩⟩
      have := h'.owns (base := base) hB
      rw [hlen] at this
      exact this
theorem szSI : (Tryz.prog.info? 36).map (fun i => (i.zero, i.size)) = some (some (.agg #[.string ⟨#[]⟩, .string ⟨#[]⟩, .int .i64 0]), 3) := by kernel_rfl
theorem run_clear_one (w : World) (g o : Nat) (cur : Array Value) (t : TypeId) (hg : w.heap[g]? = some (.cells cur t (0, 0))) (hfit : o + 3 ≤ cur.size) :
    ∃ cs : List Value, cs.length = 3 ∧ ∀ ty c, (Builtin.clear_ #[22] ty #[.slice (some ⟨g, o, none⟩) 1 c]).run Tryz.prog w = .ok (.tuple #[]) (w.setRow g (cur.toList.take o ++ cs ++ cur.toList.drop (o + 3)).toArray) := by
  have hz := (zero_of_info szSI).1
  obtain ⟨cs, hcs⟩ : ∃ cs, (Builtin.zeroCells (Value.cells (.agg #[.string ⟨#[]⟩, .string ⟨#[]⟩, .int .i64 0])) 1).toList = cs := ⟨_, rfl⟩
  have hl : cs.length = 3 := by rw [← hcs]; simp [Builtin.zeroCells, Value.cells]
  have h1 : ∀ v ∈ cs, v.oneCell' = true := by
    intro v hv
    rw [← hcs] at hv
    simp only [Builtin.zeroCells, Array.toList_map, List.mem_map] at hv
    obtain ⟨i, _, rfl⟩ := hv
    have h6 : i % 3 < 3 := Nat.mod_lt _ (by decide)
    show ((#[Value.string ⟨#[]⟩, .string ⟨#[]⟩, .int .i64 0] : Array Value)[i % 3]!).oneCell' = true
    generalize i % 3 = j at h6
    match j, h6 with
    | 0, _ => rfl
    | 1, _ => rfl
    | 2, _ => rfl
  have hst := run_storeCells_at Tryz.prog g o t cs 0 cur w hg (by simp; omega) h1
  refine ⟨cs, hl, fun ty c => ?_⟩
  rw [hl] at hst
  simp [Builtin.clear_, run_underlying Tryz.underlying22, hz, hcs, hst]
set_option maxHeartbeats 8000000 in
set_option maxRecDepth 100000 in
theorem delete_any (g cap i : Nat) (l : List SeenT) (cur : List Value) (w : World) (h : Rw w g cap l cur) (hi : i < l.length) :
    Calls Tryz.prog 38 #[.slice (some ⟨g, 0, none⟩) l.length cap, .int .i64 i, .int .i64 ((i : Int) + 1)] w fun e w' =>
      e = .returned (.slice (some ⟨g, 0, none⟩) (l.length - 1) cap) ∧ (∃ cur', Rw w' g cap (l.take i ++ l.drop (i + 1)) cur') ∧ Chg w w' (fun k => k = g) := by
  have hsz := h.size
  have hlen := h.len
  obtain ⟨i0, hi0, hz0, hzs, hzb⟩ := info_parts Tryz.infoS
  have hdl : (seCs (l.drop (i + 1))).length = (l.length - (i + 1)) * 3 := by rw [seCs_len, List.length_drop]
  obtain ⟨A, hA, hsrc⟩ : ∃ A : Addr, (if cap = i + 1 then some (⟨g, 0, none⟩ : Addr) else some ⟨g, (i + 1) * 3, none⟩) = some A ∧ ∀ j v, (seCs (l.drop (i + 1)))[j]? = some v → w.cell? (A.add j) = some v := by
    by_cases hc : cap = i + 1
    · refine ⟨⟨g, 0, none⟩, by simp [hc], fun j v hj => ?_⟩
      have : (seCs (l.drop (i + 1))).length = 0 := by rw [hdl]; omega
      rw [List.length_eq_zero_iff.1 this] at hj
      simp at hj
    · refine ⟨⟨g, (i + 1) * 3, none⟩, by simp [hc], fun j v hj => ?_⟩
      rw [addr_add]
      refine h.cell ?_
      rw [← seCs_drop, List.getElem?_drop] at hj
      exact hj
  obtain ⟨cx, hcx⟩ : ∃ cx, cx = cur.take (i * 3) ++ seCs (l.drop (i + 1)) ++ cur.drop (i * 3 + (l.length - (i + 1)) * 3) := ⟨_, rfl⟩
  have hcl : cx.length = cap * 3 := by rw [hcx]; simp [hdl]; omega
  have hap : ∀ ty c, (Builtin.append_ #[22, 22] ty #[.slice (some ⟨g, 0, none⟩) i cap, .slice (some A) (l.length - (i + 1)) c]).run Tryz.prog w.drew = .ok (.slice (some ⟨g, 0, none⟩) (l.length - 1) cap) (w.drew.setRow g cx.toArray) := fun ty c => by
    have h1 := run_append_room (P := Tryz.prog) w.drew 22 ty 36 i0 Tryz.underlying22 hi0 g i cap cur.toArray h.blk A (l.length - (i + 1)) c (seCs (l.drop (i + 1))) (by rw [hzs, hdl]) hsrc (fun v hv => seCs_one _ v hv) (by omega) (by rw [hzs, hdl]; simp; omega)
    rw [h1, hzs, hdl, hcx, show i + (l.length - (i + 1)) = l.length - 1 by omega]
  obtain ⟨W1, hW1⟩ : ∃ W1, W1 = w.drew.setRow g cx.toArray := ⟨_, rfl⟩
  have hb1 : W1.heap[g]? = some (.cells cx.toArray 36 (0, 0)) := by rw [hW1]; exact setRow_heap w.drew g _ _ _ _ h.blk
  obtain ⟨cs, hcs, hcr⟩ : ∃ cs : List Value, cs.length = 3 ∧ ∀ ty c, (Builtin.clear_ #[22] ty #[.slice (some ⟨g, (l.length - 1) * 3, none⟩) 1 c]).run Tryz.prog W1 = .ok (.tuple #[]) (W1.setRow g (cx.take ((l.length - 1) * 3) ++ cs ++ cx.drop ((l.length - 1) * 3 + 3)).toArray) := by
    have := run_clear_one W1 g ((l.length - 1) * 3) cx.toArray 36 hb1 (by simp [hcl]; omega)
    simpa using this
  have HEND : Hid ((∃ cur', Rw (W1.setRow g (cx.take ((l.length - 1) * 3) ++ cs ++ cx.drop ((l.length - 1) * 3 + 3)).toArray) g cap (l.take i ++ l.drop (i + 1)) cur') ∧ Chg w (W1.setRow g (cx.take ((l.length - 1) * 3) ++ cs ++ cx.drop ((l.length - 1) * 3 + 3)).toArray) (fun k => k = g)) := by
    refine ⟨⟨_, ⟨setRow_heap W1 g _ _ _ _ hb1, by simp; omega, h.max, by simp [hcl, hcs]; omega, ?_⟩⟩, ?_⟩
    · have e0 : (l.take i ++ l.drop (i + 1)).length = l.length - 1 := by simp; omega
      have e1 : cur.take (i * 3) = seCs (l.take i) := by rw [← seCs_take, ← h.row, List.take_take, Nat.min_eq_left (by omega)]
      have e2 : (seCs (l.take i ++ l.drop (i + 1))).length = (l.length - 1) * 3 := by rw [seCs_len, e0]
      rw [e0, List.append_assoc, List.take_append_of_le_length (by simp [hcl]; omega), List.take_take, Nat.min_self, hcx, e1, ← seCs_append, ← e2, List.take_left]
    · rw [hW1]
      have h1 := (chg_setRow w.drew g cx.toArray).trans (chg_setRow _ g (cx.take ((l.length - 1) * 3) ++ cs ++ cx.drop ((l.length - 1) * 3 + 3)).toArray)
      exact ⟨h1.os, h1.tape, h1.output, h1.size, h1.block⟩
  subst hW1
  obtain ⟨n, hn⟩ : ∃ n, l.length = n := ⟨_, rfl⟩
  rw [hn] at hi hlen hap hcr HEND ⊢
  have hmx := h.max
  unfold maxLen at hmx
  have hz2 : ¬ ((i : Int) = (i : Int) + 1) := by omega
  have hb1' : (0 : Int) ≤ (i : Int) + 1 := by omega
  have htn : ((i : Int) + 1).toNat = i + 1 := by omega
  have hb5 : (i : Int) ≤ (n : Int) := by omega
  have hb6 : (i : Int) + 1 ≤ (n : Int) := by omega
  have hb7 : (n : Int) ≤ (cap : Int) := by omega
  have hb8 : (i : Int) ≤ (i : Int) + 1 := by omega
  have hn1 : ¬ cap = n - 1 := by omega
  have hic : i ≤ cap := by omega
  have hn2 : n - (n - 1) = 1 := by omega
  have hn3 : ((n - 1 : Nat) : Int) ≤ (n : Int) := by omega
  have mixed : Tryz.prog.follows Departure.mixedOrders = true := by kernel_rfl
  clear hdl hsz hcl hb1 hcx h hn hi0 hz0 hzs hzb hsrc
  go_enter Tryz.func38, Tryz.ntmps38
  go_wp2_with fail
  go_region_law_o (refine step_append_runI rfl (.tmp 22) (.tmp 25) 22 22 rfl (.slice (some ⟨g, 0, none⟩) i cap) (.slice (some A) (n - (i + 1)) (cap - (i + 1))) (by simp [Act.eval, Act.put]) (by simp [Act.eval, Act.put]) (hap _ _) ?_)
  go_wp2_with fail
  go_ret
  exact ⟨rfl, by have := HEND.out; simp only [List.append_assoc] at this; exact this⟩
end Go.Proofs.YtaieijbdknfcjaaGreatDoor
