import Derived.Deep.WholeRow
import Derived.Test.YtbamkdohaofgdaaGreatDoorGRow
import Derived.Test.YtbamkdohaofgdaaGreatDoorGPure
import Derived.Test.YtbamkdohaofgdaaGreatDoorDChange
import Derived.Deep.QuietTactic
import Derived.BigQuiet
import Derived.Deep.RegionLaw
import Derived.Shelf.Abstract
namespace Go.Proofs.YtbamkdohaofgdaaGreatDoor
open Go.RowKit
set_option linter.unusedVariables false
set_option linter.unusedSimpArgs false

theorem owns_capA {w : World} {B e s n c : Nat} {a : Option Addr} {xs : List Value} (h : w.ownsRow B e s (.slice a n c) n xs) : n ≤ c ∧ c ≤ maxLen := by
  rcases h.2 with ⟨h0, h1⟩ | ⟨g, cap, cur, hv, _, _, hn, hc, _⟩
  · cases h0; exact ⟨Nat.le_refl _, Nat.zero_le _⟩
  · cases hv; exact ⟨hn, hc⟩
theorem step_append_runI {P : Program} {ops : Array Oper} {o : Oper} {a : Act} {w : World} {K : Act → World → Prop} {Q : Exit → Act → World → Prop} {E : Prop}
    (hg : o.guard = none) (d x : Operand) (dT sT : TypeId) (hop : o.op = Op.call { callee := Callee.builtin Builtin.append, args := #[d, x], argTypes := #[dT, sT] })
    (v u : Value) (hd : a.eval d = v) (hx : a.eval x = u) {v' : Value} {w' : World} (hr : (Builtin.append_ #[dT, sT] o.type #[v, u]).run P w = .ok v' w') (hK : K (a.put o.dst v') w') :
    if Region.wanted o (yielded ops a.tmps) = true then Oper.wp P o a w K Q else E := by
  have hw : Region.wanted o (yielded ops a.tmps) = true := by simp [Region.wanted, hg]
  rw [if_pos hw]
  unfold Oper.wp
  simp [execOp, hop, resolve, invoke, builtin, hd, hx, hr, Result.andThen]
  exact hK
set_option maxHeartbeats 8000000 in
set_option maxRecDepth 100000 in
theorem insert_end (base gx : Nat) (a : Option Addr) (cap : Nat) (l : List SeenT) (x : SeenT) (w : World) (ho : w.ownsRow base 52 3 (.slice a l.length cap) l.length (seCs l)) (hl : l.length ≤ 100000) (hx : w.heap[gx]? = some (.cells x.cells.toArray 52 (0, 0))) (hB : base ≤ w.heap.size) :
    Calls Tryz.prog 40 #[.slice a l.length cap, .int .i64 l.length, .slice (some ⟨gx, 0, none⟩) 1 1] w fun e w' =>
      ∃ v', e = .returned v' ∧ w'.ownsRow base 52 3 v' (l.length + 1) (seCs (l ++ [x])) ∧ Chg w w' (fun k => (Value.slice a l.length cap).ownBlock = some k) := by
  have hle := (owns_capA ho).1
  have HO : Hid _ := ho
  have HX : Hid (Ss w (some ⟨gx, 0, none⟩) [x]) := .inr ⟨gx, 0, rfl, lt_of_blk hx, fun i s hi j y hy => by
    cases i with
    | zero =>
      simp at hi
      subst hi
      simp only [World.cell?, hx, Nat.zero_add, Nat.zero_mul]
      rw [List.getElem?_toArray]
      exact hy
    | succ i => simp at hi⟩
  have hmx := (owns_capA ho).2
  unfold maxLen at hmx
  obtain ⟨n, hn⟩ : ∃ n, l.length = n := ⟨_, rfl⟩
  have HN : Hid (l.length = n) := hn
  rw [hn] at HO hl hle ⊢
  clear ho hx hn
  have hz : (n : Int) = (n : Int) := rfl
  cases a with
  | none =>
    go_enter Tryz.func40, Tryz.ntmps40
    go_wp2_with (at_builtin; refine wpList_appS rfl _ _ rfl base _ n (seCs l) rfl HO.out (some ⟨gx, 0, none⟩) 1 1 [x] rfl rfl HX.out (fun h => by cases h) (by simp; omega) hB ?_
                 intro v2 wn hon hgn hatn
                 have HON : Hid _ := hon
                 have HGN : Hid _ := Chg.grown hgn
                 clear hon hgn hatn)
    go_ret
    exact ⟨v2, rfl, by rw [seCs_append]; exact HON.out, HGN.out⟩
  | some ad =>
    obtain ⟨g, rfl⟩ : ∃ g, ad = ⟨g, 0, none⟩ := by
      rcases HO.out.2 with ⟨h0, _⟩ | ⟨g', cap', cur, hv, _⟩
      · cases h0
      · cases hv; exact ⟨g', rfl⟩
    go_enter Tryz.func40, Tryz.ntmps40
    go_wp2_with (at_builtin; refine wpList_appS rfl _ _ rfl base _ n (seCs l) rfl HO.out (some ⟨gx, 0, none⟩) 1 1 [x] rfl rfl HX.out (fun h => by cases h) (by simp; omega) hB ?_
                 intro v2 wn hon hgn hatn
                 have HON : Hid _ := hon
                 have HGN : Hid _ := Chg.grown hgn
                 clear hon hgn hatn)
    all_goals (go_ret; exact ⟨v2, rfl, by rw [seCs_append]; exact HON.out, HGN.out⟩)
theorem insert_any (base gx i : Nat) (a : Option Addr) (cap : Nat) (l : List SeenT) (x : SeenT) (w : World) (ho : w.ownsRow base 52 3 (.slice a l.length cap) l.length (seCs l)) (hi : i ≤ l.length) (hl : l.length ≤ 100000) (hx : w.heap[gx]? = some (.cells x.cells.toArray 52 (0, 0))) (hne : (Value.slice a l.length cap).ownBlock ≠ some gx) (hB : base ≤ w.heap.size) :
    Calls Tryz.prog 40 #[.slice a l.length cap, .int .i64 i, .slice (some ⟨gx, 0, none⟩) 1 1] w fun e w' =>
      ∃ v', e = .returned v' ∧ w'.ownsRow base 52 3 v' (l.length + 1) (seCs (l.take i ++ x :: l.drop i)) ∧ Chg w w' (fun k => (Value.slice a l.length cap).ownBlock = some k) := by
  by_cases he : i = l.length
  · subst he
    rw [List.take_length, List.drop_length]
    exact insert_end base gx a cap l x w ho hl hx hB
  · have hlt : i < l.length := by omega
    obtain ⟨g, rfl⟩ : ∃ g, a = some ⟨g, 0, none⟩ := by
      rcases ho.2 with ⟨h0, h1⟩ | ⟨g', cap', cur, hv, _⟩
      · omega
      · cases hv; exact ⟨g', rfl⟩
    obtain ⟨cur, hr, hbg⟩ := rw_of ho
    have hlen : (l.take i ++ x :: l.drop i).length = l.length + 1 := by simp; omega
    by_cases hroom : l.length + 1 ≤ cap
    · refine (insert_shift g cap gx i l x cur w hr hlt hroom (fun e => hne (by rw [e]; rfl)) hx).mono ?_
      rintro e w' ⟨rfl, ⟨cur', h'⟩, hc⟩
      refine ⟨_, rfl, ?_, hc.mono (fun k _ h => by rw [h]; rfl)⟩
      have := h'.owns (base := base) hbg
      rw [hlen] at this
      exact this
    · refine (insert_grow g cap gx i l x cur w hr hlt (by omega) hl hx).mono ?_
      rintro e w' ⟨cap', rfl, ⟨cur', h'⟩, hb⟩
      refine ⟨_, rfl, ?_, ⟨hb.os, hb.tape, hb.output, hb.size, fun k hk _ => hb.block k hk⟩⟩
      have := h'.owns (base := base) hB
      rw [hlen] at this
      exact this
theorem szSI : (Tryz.prog.info? 52).map (fun i => (i.zero, i.size)) = some (some (.agg #[.string ⟨#[]⟩, .string ⟨#[]⟩, .int .i64 0]), 3) := by kernel_rfl
theorem run_clear_one (w : World) (g o : Nat) (cur : Array Value) (t : TypeId) (hg : w.heap[g]? = some (.cells cur t (0, 0))) (hfit : o + 3 ≤ cur.size) :
    ∃ cs : List Value, cs.length = 3 ∧ ∀ ty c, (Builtin.clear_ #[22] ty #[.slice (some ⟨g, o, none⟩) 1 c]).run Tryz.prog w = .ok (.tuple #[]) (w.setRow g (cur.toList.take o ++ cs ++ cur.toList.drop (o + 3)).toArray) := by
  have hz := (zero_of_info szSI).1
  obtain ⟨cs, hcs⟩ : ∃ cs, (Builtin.zeroCells (Value.cells (.agg #[.string ⟨#[]⟩, .string ⟨#[]⟩, .int .i64 0])) 1).toList = cs := ⟨_, rfl⟩
  have hl : cs.length = 3 := by rw [← hcs]; simp [Builtin.zeroCells, Value.cells]
  have h1 : ∀ v ∈ cs, v.oneCell' = true := by
    intro v hv
    rw [← hcs] at hv
    simp only [Builtin.zeroCells, Array.toList_map, List.mem_map] at hv
    obtain ⟨i, _, rfl⟩ := hv
    have h6 : i % 3 < 3 := Nat.mod_lt _ (by decide)
    show ((#[Value.string ⟨#[]⟩, .string ⟨#[]⟩, .int .i64 0] : Array Value)[i % 3]!).oneCell' = true
    generalize i % 3 = j at h6
    match j, h6 with
    | 0, _ => rfl
    | 1, _ => rfl
    | 2, _ => rfl
  have hst := run_storeCells_at Tryz.prog g o t cs 0 cur w hg (by simp; omega) h1
  refine ⟨cs, hl, fun ty c => ?_⟩
  rw [hl] at hst
  simp [Builtin.clear_, run_underlying Tryz.underlying22, hz, hcs, hst]
set_option maxHeartbeats 8000000 in
set_option maxRecDepth 100000 in
theorem delete_any (g cap i : Nat) (l : List SeenT) (cur : List Value) (w : World) (h : Rw w g cap l cur) (hi : i < l.length) :
    Calls Tryz.prog 44 #[.slice (some ⟨g, 0, none⟩) l.length cap, .int .i64 i, .int .i64 ((i : Int) + 1)] w fun e w' =>
      e = .returned (.slice (some ⟨g, 0, none⟩) (l.length - 1) cap) ∧ (∃ cur', Rw w' g cap (l.take i ++ l.drop (i + 1)) cur') ∧ Chg w w' (fun k => k = g) := by
  have hsz := h.size
  have hlen := h.len
  obtain ⟨i0, hi0, hz0, hzs, hzb⟩ := info_parts Tryz.infoS
  have hdl : (seCs (l.drop (i + 1))).length = (l.length - (i + 1)) * 3 := by rw [seCs_len, List.length_drop]
  obtain ⟨A, hA, hsrc⟩ : ∃ A : Addr, (if cap = i + 1 then some (⟨g, 0, none⟩ : Addr) else some ⟨g, (i + 1) * 3, none⟩) = some A ∧ ∀ j v, (seCs (l.drop (i + 1)))[j]? = some v → w.cell? (A.add j) = some v := by
    by_cases hc : cap = i + 1
    · refine ⟨⟨g, 0, none⟩, by simp [hc], fun j v hj => ?_⟩
      have : (seCs (l.drop (i + 1))).length = 0 := by rw [hdl]; omega
      rw [List.length_eq_zero_iff.1 this] at hj
      simp at hj
    · refine ⟨⟨g, (i + 1) * 3, none⟩, by simp [hc], fun j v hj => ?_⟩
      rw [addr_add]
      refine h.cell ?_
      rw [← seCs_drop, List.getElem?_drop] at hj
      exact hj
  obtain ⟨cx, hcx⟩ : ∃ cx, cx = cur.take (i * 3) ++ seCs (l.drop (i + 1)) ++ cur.drop (i * 3 + (l.length - (i + 1)) * 3) := ⟨_, rfl⟩
  have hcl : cx.length = cap * 3 := by rw [hcx]; simp [hdl]; omega
  have hap : ∀ ty c, (Builtin.append_ #[22, 22] ty #[.slice (some ⟨g, 0, none⟩) i cap, .slice (some A) (l.length - (i + 1)) c]).run Tryz.prog w.drew = .ok (.slice (some ⟨g, 0, none⟩) (l.length - 1) cap) (w.drew.setRow g cx.toArray) := fun ty c => by
    have h1 := run_append_room (P := Tryz.prog) w.drew 22 ty 52 i0 Tryz.underlying22 hi0 g i cap cur.toArray h.blk A (l.length - (i + 1)) c (seCs (l.drop (i + 1))) (by rw [hzs, hdl]) hsrc (fun v hv => seCs_one _ v hv) (by omega) (by rw [hzs, hdl]; simp; omega)
    rw [h1, hzs, hdl, hcx, show i + (l.length - (i + 1)) = l.length - 1 by omega]
  obtain ⟨W1, hW1⟩ : ∃ W1, W1 = w.drew.setRow g cx.toArray := ⟨_, rfl⟩
  have hb1 : W1.heap[g]? = some (.cells cx.toArray 52 (0, 0)) := by rw [hW1]; exact setRow_heap w.drew g _ _ _ _ h.blk
  obtain ⟨cs, hcs, hcr⟩ : ∃ cs : List Value, cs.length = 3 ∧ ∀ ty c, (Builtin.clear_ #[22] ty #[.slice (some ⟨g, (l.length - 1) * 3, none⟩) 1 c]).run Tryz.prog W1 = .ok (.tuple #[]) (W1.setRow g (cx.take ((l.length - 1) * 3) ++ cs ++ cx.drop ((l.length - 1) * 3 + 3)).toArray) := by
    have := run_clear_one W1 g ((l.length - 1) * 3) cx.toArray 52 hb1 (by simp [hcl]; omega)
    simpa using this
  have HEND : Hid ((∃ cur', Rw (W1.setRow g (cx.take ((l.length - 1) * 3) ++ cs ++ cx.drop ((l.length - 1) * 3 + 3)).toArray) g cap (l.take i ++ l.drop (i + 1)) cur') ∧ Chg w (W1.setRow g (cx.take ((l.length - 1) * 3) ++ cs ++ cx.drop ((l.length - 1) * 3 + 3)).toArray) (fun k => k = g)) := by
    refine ⟨⟨_, ⟨setRow_heap W1 g _ _ _ _ hb1, by simp; omega, h.max, by simp [hcl, hcs]; omega, ?_⟩⟩, ?_⟩
    · have e0 : (l.take i ++ l.drop (i + 1)).length = l.length - 1 := by simp; omega
      have e1 : cur.take (i * 3) = seCs (l.take i) := by rw [← seCs_take, ← h.row, List.take_take, Nat.min_eq_left (by omega)]
      have e2 : (seCs (l.take i ++ l.drop (i + 1))).length = (l.length - 1) * 3 := by rw [seCs_len, e0]
      rw [e0, List.append_assoc, List.take_append_of_le_length (by simp [hcl]; omega), List.take_take, Nat.min_self, hcx, e1, ← seCs_append, ← e2, List.take_left]
    · rw [hW1]
      have h1 := (chg_setRow w.drew g cx.toArray).trans (chg_setRow _ g (cx.take ((l.length - 1) * 3) ++ cs ++ cx.drop ((l.length - 1) * 3 + 3)).toArray)
      exact ⟨h1.os, h1.tape, h1.output, h1.size, h1.block⟩
  subst hW1
  obtain ⟨n, hn⟩ : ∃ n, l.length = n := ⟨_, rfl⟩
  rw [hn] at hi hlen hap hcr HEND ⊢
  have hmx := h.max
  unfold maxLen at hmx
  have hz2 : ¬ ((i : Int) = (i : Int) + 1) := by omega
  have hb1' : (0 : Int) ≤ (i : Int) + 1 := by omega
  have htn : ((i : Int) + 1).toNat = i + 1 := by omega
  have hb5 : (i : Int) ≤ (n : Int) := by omega
  have hb6 : (i : Int) + 1 ≤ (n : Int) := by omega
  have hb7 : (n : Int) ≤ (cap : Int) := by omega
  have hb8 : (i : Int) ≤ (i : Int) + 1 := by omega
  have hn1 : ¬ cap = n - 1 := by omega
  have hic : i ≤ cap := by omega
  have hn2 : n - (n - 1) = 1 := by omega
  have hn3 : ((n - 1 : Nat) : Int) ≤ (n : Int) := by omega
  have mixed : Tryz.prog.follows Departure.mixedOrders = true := by kernel_rfl
  clear hdl hsz hcl hb1 hcx h hn hi0 hz0 hzs hzb hsrc
  go_enter Tryz.func44, Tryz.ntmps44
  go_wp2_with fail
  go_region_law_o (refine step_append_runI rfl (.tmp 22) (.tmp 25) 22 22 rfl (.slice (some ⟨g, 0, none⟩) i cap) (.slice (some A) (n - (i + 1)) (cap - (i + 1))) (by simp [Act.eval, Act.put]) (by simp [Act.eval, Act.put]) (hap _ _) ?_)
  go_wp2_with fail
  go_ret
  exact ⟨rfl, by have := HEND.out; simp only [List.append_assoc] at this; exact this⟩
end Go.Proofs.YtbamkdohaofgdaaGreatDoor
namespace Go.Proofs.YtbamkdohaofgdaaGreatDoor
open Go.RowKit Classical
set_option linter.unusedVariables false
set_option linter.unusedSimpArgs false

theorem free_3 {W : World} {b : Nat} {t : TypeId} {x0 x1 x2 : Value} (h : W.heap[b]? = some (.cells #[x0, x1, x2] t (0, 0))) (o : Nat) : W.frozen? ⟨b, o, none⟩ = false := by
  simp [World.frozen?, h]
set_option maxHeartbeats 3200000 in
set_option maxRecDepth 100000 in
theorem seen_any (p d : ByteArray) (v : Int) (w : World) (hp : p.size ≤ 1000) (hd : d.size ≤ 1000) :
    Calls Tryz.prog 36 #[.string p, .string d, .int .i64 v] w fun e w' => e = .returned (.agg #[.string p, .string d, .int .i64 v]) ∧ Below w.heap.size w w' := by
  have HP : Hid (∀ w, Calls Tryz.prog 17 #[.string p] w fun e w' => e = .returned (.string p) ∧ Below w.heap.size w w') := sclone_any p (by omega)
  have HD : Hid (∀ w, Calls Tryz.prog 17 #[.string d] w fun e w' => e = .returned (.string d) ∧ Below w.heap.size w w') := sclone_any d (by omega)
  have HR0 : Hid ((w.alloc (.cells #[.string ⟨#[]⟩, .string ⟨#[]⟩, .int .i64 0] 52)).heap[w.heap.size]? = some (.cells #[.string ⟨#[]⟩, .string ⟨#[]⟩, .int .i64 0] 52 (0, 0))) := heap_alloc_new _ _
  have HB0 : Hid (Below w.heap.size w (w.alloc (.cells #[.string ⟨#[]⟩, .string ⟨#[]⟩, .int .i64 0] 52))) := (Below.refl _ _).alloc (Nat.le_refl _) _
  clear hp hd
  go_enter Tryz.func36, Tryz.ntmps36
  go_wp2_with fail
  refine (HP.out _).mono ?_
  rintro e w1 ⟨rfl, hb1⟩
  have HB1 : Hid (Below w.heap.size w w1) := trans2 HB0.out hb1
  have HR1 : Hid _ := kept_block hb1 HR0.out
  clear hb1
  go_wp2_with fail
  refine (HD.out _).mono ?_
  rintro e w2 ⟨rfl, hb2⟩
  have HB2 : Hid (Below w.heap.size w w2) := trans2 HB1.out hb2
  have HR2 : Hid _ := kept_block hb2 HR1.out
  clear hb2
  obtain ⟨r0, r1, r2⟩ := cells_3 HR2.out
  have f3 := free_3 HR2.out
  go_wp2_with fail
  exact bodyPost_ret (results_cell_row rfl _ _ w.heap.size 52 _ (0, 0) _ rfl (fill_3 HR2.out) Tryz.underlying52 rfl (by kernel_rfl)) rfl ⟨rfl, fillB_3 HB2.out (Nat.le_refl _)⟩
set_option maxHeartbeats 3200000 in
set_option maxRecDepth 100000 in
theorem seenBy_any (k : Int) (c : ChT) (w : World) (hp : c.p.size ≤ 1000) (hd : c.d.size ≤ 1000) :
    Calls Tryz.prog 41 #[.int .i64 k, .agg (chA c)] w fun e w' => e = .returned (.agg (seC (seeB k c))) ∧ Below w.heap.size w w' := by
  obtain ⟨ck, p, d, v⟩ := c
  have HR0 : Hid (((w.alloc (.cells #[.int .i64 ck, .string p, .string d, .int .i64 v] 46)).alloc (.cells #[.string ⟨#[]⟩, .string ⟨#[]⟩, .int .i64 0] 52)).heap[w.heap.size + 1]? = some (.cells #[.string ⟨#[]⟩, .string ⟨#[]⟩, .int .i64 0] 52 (0, 0))) := heap_new' (by simp)
  have HC0 : Hid (((w.alloc (.cells #[.int .i64 ck, .string p, .string d, .int .i64 v] 46)).alloc (.cells #[.string ⟨#[]⟩, .string ⟨#[]⟩, .int .i64 0] 52)).heap[w.heap.size]? = some (.cells #[.int .i64 ck, .string p, .string d, .int .i64 v] 46 (0, 0))) := new_old (heap_alloc_new _ _) _
  have HB0 : Hid (Below w.heap.size w ((w.alloc (.cells #[.int .i64 ck, .string p, .string d, .int .i64 v] 46)).alloc (.cells #[.string ⟨#[]⟩, .string ⟨#[]⟩, .int .i64 0] 52))) := ((Below.refl _ _).alloc (Nat.le_refl _) _).alloc (by simp) _
  by_cases hk : k = 2
  · subst hk
    have HS : Hid (∀ w, Calls Tryz.prog 36 #[.string p, .string ⟨#[]⟩, .int .i64 0] w fun e w' => e = .returned (.agg #[.string p, .string ⟨#[]⟩, .int .i64 0]) ∧ Below w.heap.size w w') := fun w => seen_any p ⟨#[]⟩ 0 w hp (by decide)
    clear hp hd
    go_enter Tryz.func41, Tryz.ntmps41
    go_wp2_with fail
    refine (HS.out _).mono ?_
    rintro e w1 ⟨rfl, hb1⟩
    have HB1 : Hid (Below w.heap.size w w1) := trans2 HB0.out hb1
    have HR1 : Hid _ := kept_block hb1 HR0.out
    clear hb1
    obtain ⟨r0, r1, r2⟩ := cells_3 HR1.out
    have f3 := free_3 HR1.out
    go_wp2_with fail
    exact bodyPost_ret (results_cell_row rfl _ _ (w.heap.size + 1) 52 _ (0, 0) _ rfl (fill_3 HR1.out) Tryz.underlying52 rfl (by kernel_rfl)) rfl ⟨rfl, fillB_3 HB1.out (by omega)⟩
  · have HS : Hid (∀ w, Calls Tryz.prog 36 #[.string p, .string d, .int .i64 v] w fun e w' => e = .returned (.agg #[.string p, .string d, .int .i64 v]) ∧ Below w.heap.size w w') := fun w => seen_any p d v w hp hd
    have HE : Hid (seeB k ⟨ck, p, d, v⟩ = ⟨p, d, v⟩) := by show _ = _; unfold seeB; rw [if_neg hk]
    clear hp hd
    obtain ⟨c0, c1, c2, c3⟩ := cells_4 HC0.out
    go_enter Tryz.func41, Tryz.ntmps41
    go_wp2_with fail
    refine (HS.out _).mono ?_
    rintro e w1 ⟨rfl, hb1⟩
    have HB1 : Hid (Below w.heap.size w w1) := trans2 HB0.out hb1
    have HR1 : Hid _ := kept_block hb1 HR0.out
    clear hb1 c0 c1 c2 c3
    obtain ⟨r0, r1, r2⟩ := cells_3 HR1.out
    have f3 := free_3 HR1.out
    go_wp2_with fail
    exact bodyPost_ret (results_cell_row rfl _ _ (w.heap.size + 1) 52 _ (0, 0) _ rfl (fill_3 HR1.out) Tryz.underlying52 rfl (by kernel_rfl)) rfl ⟨by rw [HE.out], fillB_3 HB1.out (by omega)⟩
theorem make_s (n : Nat) (hn : n ≤ 1000000) : ∃ M : List Value, M.length = n * 3 ∧ ∀ w : World, (Instr.makeSlice 22 (.int .i64 n) (.int .i64 n)).run Tryz.prog w = .ok (.slice (some ⟨w.heap.size, 0, none⟩) n n) (w.alloc (.cells M.toArray 52)) := by
  obtain ⟨i0, hi, hz0, hz1, hz2⟩ := info_parts Tryz.infoS
  refine ⟨(madeCells (Value.cells (.agg #[.string ⟨#[]⟩, .string ⟨#[]⟩, .int .i64 0])) (n * 3)).toList, by rw [Array.length_toList, size_madeCells], fun w => ?_⟩
  have h := run_make (P := Tryz.prog) w 22 52 i0 _ Tryz.underlying22 hi hz0 .i64 .i64 n n (by omega) (Int.le_refl _) (by rw [hz2]; omega) (by omega)
  rw [hz1] at h
  simpa using h
theorem set3_take (cs : List Value) (q : Nat) (x0 x1 x2 : Value) (h : (q + 1) * 3 ≤ cs.length) : (((cs.set (q * 3) x0).set (q * 3 + 1) x1).set (q * 3 + 2) x2).take ((q + 1) * 3) = cs.take (q * 3) ++ [x0, x1, x2] := by
  refine List.ext_getElem? fun j => ?_
  rw [List.getElem?_take]
  split
  · rename_i hj
    rcases Nat.lt_or_ge j (q * 3) with h1 | h1
    · rw [List.getElem?_append_left (by simp; omega), List.getElem?_take, if_pos h1, List.getElem?_set_ne (by omega), List.getElem?_set_ne (by omega), List.getElem?_set_ne (by omega)]
    · rw [List.getElem?_append_right (by simp; omega)]
      have hl : (cs.take (q * 3)).length = q * 3 := by simp; omega
      rw [hl]
      rcases (show j = q * 3 ∨ j = q * 3 + 1 ∨ j = q * 3 + 2 by omega) with rfl | rfl | rfl
      · rw [List.getElem?_set_ne (by omega), List.getElem?_set_ne (by omega), List.getElem?_set_self (by omega), Nat.sub_self]; rfl
      · rw [List.getElem?_set_ne (by omega), List.getElem?_set_self (by simp; omega), show q * 3 + 1 - q * 3 = 1 by omega]; rfl
      · rw [List.getElem?_set_self (by simp; omega), show q * 3 + 2 - q * 3 = 2 by omega]; rfl
  · rename_i hj
    rw [List.getElem?_append_right (by simp; omega)]
    have hl : (cs.take (q * 3)).length = q * 3 := by simp; omega
    rw [hl, List.getElem?_eq_none (by simp; omega)]
theorem chg_set3 (w : World) (g o : Nat) (x0 x1 x2 : Value) : Chg w (((w.setCell ⟨g, o, none⟩ x0).setCell ⟨g, o + 1, none⟩ x1).setCell ⟨g, o + 2, none⟩ x2) (fun j => j = g) := ((Chg.set w ⟨g, o, none⟩ x0).trans (Chg.set _ ⟨g, o + 1, none⟩ x1)).trans (Chg.set _ ⟨g, o + 2, none⟩ x2)
set_option maxHeartbeats 3200000 in
set_option maxRecDepth 100000 in
theorem copied_any (a : Option Addr) (c n : Nat) (l : List SeenT) (w : World) (hs : Ss w a l) (hn : l.length = n) (hl : n ≤ 1000) (hok : ∀ x ∈ l, x.p.size ≤ 1000 ∧ x.d.size ≤ 1000) :
    Calls Tryz.prog 18 #[.slice a n c] w fun e w' => ∃ g cap, e = .returned (.slice (some ⟨g, 0, none⟩) n cap) ∧ w'.ownsRow w.heap.size 52 3 (.slice (some ⟨g, 0, none⟩) n cap) n (seCs l) ∧ Below w.heap.size w w' := by
  obtain ⟨M, hM, hmk⟩ := make_s n (by omega)
  have HS : Hid (Ss w a l) := hs
  have HOK : Hid (∀ x ∈ l, x.p.size ≤ 1000 ∧ x.d.size ≤ 1000) := hok
  have HN : Hid (l.length = n) := hn
  have HR0 : Hid ((w.alloc (.cells M.toArray 52)).ownsRow w.heap.size 52 3 (.slice (some ⟨w.heap.size, 0, none⟩) n n) n M) := ⟨hM, .inr ⟨w.heap.size, n, M.toArray, rfl, Nat.le_refl _, heap_alloc_new _ _, Nat.le_refl _, by unfold maxLen; omega, by simpa using hM, by simp [← hM]⟩⟩
  clear hs hok hn hM
  go_enter Tryz.func18, Tryz.ntmps18
  go_wp2_with fail
  go_loopw [11] (fun i wr => ∃ q : Nat, i = .int .i64 q ∧ q ≤ n ∧ Hid (∃ cs, wr.ownsRow w.heap.size 52 3 (.slice (some ⟨w.heap.size, 0, none⟩) n n) n cs ∧ cs.take (q * 3) = seCs (l.take q)) ∧ Hid (Below w.heap.size w wr)) (fun i _ => n - (intOf i).toNat)
  case atStart => exact ⟨0, rfl, Nat.zero_le _, ⟨M, HR0.out, by simp [seCs]⟩, (Below.refl _ _).alloc (Nat.le_refl _) _⟩
  case round =>
    obtain ⟨q, rfl, hq, HO, HB⟩ := hrel
    by_cases hlt : q < n
    · have hlt' : (q : Int) < (n : Int) := by omega
      obtain ⟨x, hx⟩ : ∃ x, l[q]? = some x := ⟨l[q]'(by rw [HN.out]; exact hlt), List.getElem?_eq_getElem _⟩
      obtain ⟨b, o, rfl, hb, x0, x1, x2⟩ := (HS.out.below HB.out).at hx
      have HX : Hid (l[q]? = some x) := hx
      obtain ⟨e1, e2⟩ := HOK.out x (List.mem_of_getElem? hx)
      have HSE : Hid (∀ w, Calls Tryz.prog 36 #[.string x.p, .string x.d, .int .i64 x.v] w fun e w' => e = .returned (.agg #[.string x.p, .string x.d, .int .i64 x.v]) ∧ Below w.heap.size w w') := fun w => seen_any x.p x.d x.v w e1 e2
      have HN1 : Hid ((wr.alloc (.cells (seC x) 52)).heap[wr.heap.size]? = some (.cells (seC x) 52 (0, 0))) := heap_alloc_new _ _
      have HB1 : Hid (Below w.heap.size w (wr.alloc (.cells (seC x) 52))) := HB.out.alloc HB.out.size _
      obtain ⟨cs, hcs, hct⟩ := HO.out
      have HO1 : Hid ((wr.alloc (.cells (seC x) 52)).ownsRow w.heap.size 52 3 (.slice (some ⟨w.heap.size, 0, none⟩) n n) n cs) := World.ownsRow.alloc hcs _
      have HCT : Hid (cs.take (q * 3) = seCs (l.take q)) := hct
      have HCL : Hid (cs.length = n * 3) := hcs.1
      clear hx e1 e2 hcs hct
      obtain ⟨y0, y1, y2⟩ := cells_3 HN1.out
      go_wp2_with fail
      refine (HSE.out _).mono ?_
      rintro e w2 ⟨rfl, hb2⟩
      have HB2 : Hid (Below w.heap.size w w2) := trans2 HB1.out hb2
      have HO2 : Hid (w2.ownsRow w.heap.size 52 3 (.slice (some ⟨w.heap.size, 0, none⟩) n n) n cs) := owns_below HO1.out hb2
      clear hb2 x0 x1 x2 y0 y1 y2
      obtain ⟨z0, hz0⟩ : ∃ z, w2.cell? ⟨w.heap.size, q * 3, none⟩ = some z := ⟨_, (HO2.out.cellAt (q * 3) (by omega)).trans (List.getElem?_eq_getElem (by have := HCL.out; omega))⟩
      obtain ⟨z1, hz1⟩ : ∃ z, w2.cell? ⟨w.heap.size, q * 3 + 1, none⟩ = some z := ⟨_, (HO2.out.cellAt (q * 3 + 1) (by omega)).trans (List.getElem?_eq_getElem (by have := HCL.out; omega))⟩
      obtain ⟨z2, hz2⟩ : ∃ z, w2.cell? ⟨w.heap.size, q * 3 + 2, none⟩ = some z := ⟨_, (HO2.out.cellAt (q * 3 + 2) (by omega)).trans (List.getElem?_eq_getElem (by have := HCL.out; omega))⟩
      have hfz := HO2.out.frozenAt
      go_wp2_with fail
      go_roundw
      case rel =>
        refine ⟨q + 1, by go_num, by omega, ⟨_, owns_set (owns_set (owns_set HO2.out _) _) _, ?_⟩, ?_⟩
        · rw [set3_take cs q _ _ _ (by have := HCL.out; omega), HCT.out, take_snoc HX.out, seCs_append]
          simp [seCs]
        · exact ((HB2.out.setCell (Nat.le_refl _) _).setCell (Nat.le_refl _) _).setCell (Nat.le_refl _) _
      case measure => simp [intOf]; omega
    · obtain rfl : q = n := by omega
      have hge : ¬ (q : Int) < (q : Int) := by omega
      have HO9 : Hid (wr.ownsRow w.heap.size 52 3 (.slice (some ⟨w.heap.size, 0, none⟩) q q) q (seCs l)) := by
        obtain ⟨cs, hcs, hct⟩ := HO.out
        have : cs = seCs l := by
          rw [← HN.out, List.take_length, List.take_of_length_le (by rw [hcs.1, HN.out]; exact Nat.le_refl _)] at hct
          exact hct
        rw [← this]
        exact hcs
      go_wp2_with fail
      go_ret
      exact ⟨_, _, rfl, HO9.out, HB.out⟩
end Go.Proofs.YtbamkdohaofgdaaGreatDoor
namespace Go.Proofs.YtbamkdohaofgdaaGreatDoor
open Go.RowKit Classical
set_option linter.unusedVariables false
set_option linter.unusedSimpArgs false

def mgB (l : List SeenT) (i : Nat) (a : ByteArray) : Bool := !decide (a = pRoot) && !(match l[i + 1]? with | some y => covers 3 a 3 y.p | none => false)
theorem mg_go {l : List SeenT} (h : InvF l) {a : ByteArray} (ha : hasP l a = true) : mgB l (pos l a) a = goB l a := by
  unfold mgB goB
  congr 2
  rw [Bool.eq_iff_iff, go_next h ha]
  cases l[pos l a + 1]? with
  | none => simp
  | some y => simp
set_option maxHeartbeats 3200000 in
set_option maxRecDepth 100000 in
theorem mayGo_any (a : Option Addr) (c n i : Nat) (l : List SeenT) (x : SeenT) (w : World) (hg : Ground w) (hs : Ss w a l) (hn : l.length = n) (hl : n ≤ 1000) (hx : l[i]? = some x) :
    Calls Tryz.prog 43 #[.slice a n c, .int .i64 i] w fun e w' => e = .returned (.bool (mgB l i x.p)) ∧ Below w.heap.size w w' := by
  have hi : i < n := by rw [← hn]; exact (List.getElem?_eq_some_iff.1 hx).1
  have hi' : (i : Int) < (n : Int) := by omega
  obtain ⟨b, o, rfl, hb, x0, x1, x2⟩ := hs.at hx
  by_cases hr : x.p = pRoot
  · have HM : Hid (mgB l i x.p = false) := by show _ = _; simp [mgB, hr]
    rw [hr] at x0
    clear hs hx hg
    go_enter Tryz.func43, Tryz.ntmps43
    go_wp2_with fail
    go_ret
    exact ⟨by rw [HM.out]; rfl, Below.refl _ _⟩
  · have hr' : (x.p.toList == [47]) = false := by
      have h1 := eqL x.p pRoot
      rw [show pRoot.toList = [47] by rw [ByteArray.toList_eq]] at h1
      rw [h1]
      simp [hr]
    by_cases he : i + 1 = n
    · have HM : Hid (mgB l i x.p = true) := by
        show _ = _
        unfold mgB
        rw [List.getElem?_eq_none (by omega)]
        simp [hr]
      have he' : (i : Int) + 1 = (n : Int) := by omega
      have hw1 : IntKind.i64.wrap ((i : Int) + 1) = (n : Int) := by rw [he', IntKind.wrap_i64]; omega
      clear hs hx hg
      go_enter Tryz.func43, Tryz.ntmps43
      go_wp2_with fail
      go_ret
      exact ⟨by rw [HM.out]; rfl, Below.refl _ _⟩
    · obtain ⟨y, hy⟩ : ∃ y, l[i + 1]? = some y := ⟨l[i + 1]'(by omega), List.getElem?_eq_getElem _⟩
      have HM : Hid (mgB l i x.p = !covers 3 x.p 3 y.p) := by
        show _ = _
        unfold mgB
        rw [hy]
        simp [hr]
      obtain ⟨b', o', hab, hb', y0, y1, y2⟩ := hs.at hy
      cases hab
      have hw1 : IntKind.i64.wrap ((i : Int) + 1) = ((i + 1 : Nat) : Int) := by rw [IntKind.wrap_i64]; omega
      have he' : ¬ (((i + 1 : Nat) : Int) = (n : Int)) := by omega
      have hlt : ((i + 1 : Nat) : Int) < (n : Int) := by omega
      have HE : Hid ((((i : Int) + 1) == (n : Int)) = false) := by show _ = _; simp; omega
      have HG : Hid (Ground w) := hg
      clear hs hx hg hy
      go_enter Tryz.func43, Tryz.ntmps43
      go_wp2_with fail
      refine (covers_any 3 3 x.p y.p w HG.out).mono ?_
      rintro e w1 ⟨rfl, hb1⟩
      go_wp2_with fail
      go_ret
      exact ⟨by rw [HM.out]; show Ending.returned (.bool (((i : Int) + 1 == (n : Int)) || !covers 3 x.p 3 y.p)) = _; rw [HE.out, Bool.false_or], hb1⟩
theorem eqLf {x y : ByteArray} (h : x ≠ y) : (x.toList == y.toList) = false := by rw [eqL]; simp [h]
set_option maxHeartbeats 3200000 in
set_option maxRecDepth 100000 in
theorem mayMake_any (bs : Nat) (st : Int) (p : ByteArray) (k : Int) (a : Option Addr) (n cap : Nat) (l : List SeenT) (c : ChT) (w : World) (hg : Ground w) (hb : w.heap[bs]? = some (.cells (shA st p k a n cap) 24 (0, 0))) (hs : Ss w a l) (hn : l.length = n) (hl : n ≤ 1000) (hok : ∀ s ∈ l, s.p.size ≤ maxLen) (hasc : Asc l) :
    Calls Tryz.prog 39 #[.pointer (some ⟨bs, 0, none⟩), .agg (chA c)] w fun e w' => e = .returned (.bool (mkB p l c)) ∧ Below w.heap.size w w' := by
  obtain ⟨ck, cp, cd, cv⟩ := c
  have HC0 : Hid ((w.alloc (.cells #[.int .i64 ck, .string cp, .string cd, .int .i64 cv] 46)).heap[w.heap.size]? = some (.cells #[.int .i64 ck, .string cp, .string cd, .int .i64 cv] 46 (0, 0))) := heap_alloc_new _ _
  have HB0 : Hid ((w.alloc (.cells #[.int .i64 ck, .string cp, .string cd, .int .i64 cv] 46)).heap[bs]? = some (.cells (shA st p k a n cap) 24 (0, 0))) := new_old hb _
  have HW0 : Hid (Below w.heap.size w (w.alloc (.cells #[.int .i64 ck, .string cp, .string cd, .int .i64 cv] 46))) := (Below.refl _ _).alloc (Nat.le_refl _) _
  have HT : Hid (∀ w, Calls Tryz.prog 42 #[.string cd, .int .i64 cv] w fun e w' => e = .returned (.bool (fitB cd cv)) ∧ w' = w) := fun w => fits_any cd cv w
  have HN : Hid (l.length = n) := hn
  have HP : Hid (∀ w', Below w.heap.size w w' → Calls Tryz.prog 60 #[.slice a n cap, .string cp] w' fun e w'' => e = .returned (.bool (hasP l (upP cp))) ∧ Below w'.heap.size w' w'') := fun w' hb' => by
    have := hasParent_any a cap l cp w' (hg.below hb') (hs.below hb') (by omega) hok hasc
    rw [hn] at this
    exact this
  clear hg hb hs hn hok hasc
  obtain ⟨c0, c1, c2, c3⟩ := cells_4 HC0.out
  obtain ⟨s0, s1, s2, s3⟩ := cells_4 HB0.out
  have HD : Hid (decide ((n : Int) < 64) = decide (n < 64)) := decide_eq_decide.2 (by omega)
  obtain ⟨ft, hft⟩ : ∃ ft, fitB cd cv = ft := ⟨_, rfl⟩
  have HFT : Hid (fitB cd cv = ft) := hft
  rw [hft] at HT
  clear hft
  by_cases hpp : cp = p
  · have HM : Hid (mkB p l ⟨ck, cp, cd, cv⟩ = (ft && decide (n < 64))) := by show _ = _; simp [mkB, hpp, HN.out, HFT.out]
    subst hpp
    cases ft with
    | false =>
      go_enter Tryz.func39, Tryz.ntmps39
      go_wp2_with fail
      go_quiet (fail)
      go_wp2_with fail
      refine (HT.out _).mono ?_
      rintro e w2 ⟨rfl, rfl⟩
      go_wp2_with fail
      go_ret
      exact ⟨by rw [HM.out]; rfl, below_drewN HW0.out _⟩
    | true =>
      go_enter Tryz.func39, Tryz.ntmps39
      go_wp2_with fail
      go_quiet (fail)
      go_wp2_with fail
      refine (HT.out _).mono ?_
      rintro e w2 ⟨rfl, rfl⟩
      go_wp2_with fail
      go_ret
      exact ⟨by rw [HM.out]; show Ending.returned (.bool (decide ((n : Int) < 64))) = _; rw [HD.out]; rfl, below_drewN HW0.out _⟩
  · have hne := eqLf hpp
    have HM : Hid (mkB p l ⟨ck, cp, cd, cv⟩ = (hasP l (upP cp) && (ft && decide (n < 64)))) := by show _ = _; simp [mkB, hpp, HN.out, HFT.out]
    obtain ⟨hh, hhe⟩ : ∃ hh, hasP l (upP cp) = hh := ⟨_, rfl⟩
    rw [hhe] at HP HM
    clear hhe
    cases hh with
    | false =>
      go_enter Tryz.func39, Tryz.ntmps39
      go_wp2_with fail
      go_region_held3 (fun w' => w'.cell? ⟨bs, 1, none⟩ = some (.string p) ∧ w'.cell? ⟨bs, 3, none⟩ = some (.slice a n cap) ∧ w'.cell? ⟨w.heap.size, 1, none⟩ = some (.string cp)) (first | exact ⟨s1, s3, c1⟩ | go_keep)
        (first
        | (go_at_call 60; refine (HP.out _ (below_drew HW0.out)).mono ?_; rintro e w1 ⟨rfl, hb1⟩
           have HW1 : Hid (Below w.heap.size w w1) := trans2 HW0.out (of_drew hb1)
           have HB1 : Hid _ := kept_block (W := World.drew _) hb1 HB0.out
           have HC1 : Hid _ := kept_block (W := World.drew _) hb1 HC0.out
           clear hb1 c0 c1 c2 c3 s0 s1 s2 s3
           obtain ⟨c0, c1, c2, c3⟩ := cells_4 HC1.out
           obtain ⟨s0, s1, s2, s3⟩ := cells_4 HB1.out)
        | fail)
      go_wp2_with fail
      go_ret
      exact ⟨by rw [HM.out]; rfl, HW1.out⟩
    | true =>
      go_enter Tryz.func39, Tryz.ntmps39
      go_wp2_with fail
      go_region_held3 (fun w' => w'.cell? ⟨bs, 1, none⟩ = some (.string p) ∧ w'.cell? ⟨bs, 3, none⟩ = some (.slice a n cap) ∧ w'.cell? ⟨w.heap.size, 1, none⟩ = some (.string cp)) (first | exact ⟨s1, s3, c1⟩ | go_keep)
        (first
        | (go_at_call 60; refine (HP.out _ (below_drew HW0.out)).mono ?_; rintro e w1 ⟨rfl, hb1⟩
           have HW1 : Hid (Below w.heap.size w w1) := trans2 HW0.out (of_drew hb1)
           have HB1 : Hid _ := kept_block (W := World.drew _) hb1 HB0.out
           have HC1 : Hid _ := kept_block (W := World.drew _) hb1 HC0.out
           clear hb1 c0 c1 c2 c3 s0 s1 s2 s3
           obtain ⟨c0, c1, c2, c3⟩ := cells_4 HC1.out
           obtain ⟨s0, s1, s2, s3⟩ := cells_4 HB1.out)
        | fail)
      go_wp2_with fail
      refine (HT.out _).mono ?_
      rintro e w2 ⟨rfl, rfl⟩
      cases ft with
      | false =>
        go_wp2_with fail
        go_ret
        exact ⟨by rw [HM.out]; rfl, HW1.out⟩
      | true =>
        go_wp2_with fail
        go_ret
        exact ⟨by rw [HM.out]; show Ending.returned (.bool (decide ((n : Int) < 64))) = _; rw [HD.out]; rfl, HW1.out⟩
end Go.Proofs.YtbamkdohaofgdaaGreatDoor
namespace Go.Proofs.YtbamkdohaofgdaaGreatDoor
open Go.RowKit Classical
set_option linter.unusedVariables false
set_option linter.unusedSimpArgs false

/-- A shot that is being folded. -/
structure PAt (W w : World) (bs : Nat) (st : Int) (p : ByteArray) (k : Int) (a : Option Addr) (n cap : Nat) (l : List SeenT) : Prop where
  low : Below W.heap.size W w
  bsl : W.heap.size ≤ bs
  box : w.heap[bs]? = some (.cells (shA st p k a n cap) 24 (0, 0))
  len : l.length = n
  row : w.ownsRow W.heap.size 52 3 (.slice a n cap) n (seCs l)
theorem PAt.below {W w w' : World} {bs : Nat} {st : Int} {p : ByteArray} {k : Int} {a : Option Addr} {n cap : Nat} {l : List SeenT} (h : PAt W w bs st p k a n cap l) (hb : Below w.heap.size w w') : PAt W w' bs st p k a n cap l := ⟨trans2 h.low hb, h.bsl, kept_block hb h.box, h.len, owns_below h.row hb⟩
theorem PAt.ne {W w : World} {bs : Nat} {st : Int} {p : ByteArray} {k : Int} {a : Option Addr} {n cap : Nat} {l : List SeenT} (h : PAt W w bs st p k a n cap l) {b : Nat} {cs : Array Value} {t : TypeId} (hb : w.heap[b]? = some (.cells cs t (0, 0))) (ht : t ≠ 52) : (Value.slice a n cap).ownBlock ≠ some b := fun e => by
  rcases h.row.2 with ⟨h0, _⟩ | ⟨g, cap', cur, hv, _, hg, _⟩
  · cases h0; cases e
  · cases hv
    cases e
    rw [hb] at hg
    cases hg
    exact ht rfl
theorem PAt.ss {W w : World} {bs : Nat} {st : Int} {p : ByteArray} {k : Int} {a : Option Addr} {n cap : Nat} {l : List SeenT} (h : PAt W w bs st p k a n cap l) : Ss w a l := ss_of_row h.row
structure PC (W w : World) (bs cb : Nat) (st : Int) (p : ByteArray) (k : Int) (a : Option Addr) (n cap : Nat) (l : List SeenT) (c : ChT) : Prop where
  pat : PAt W w bs st p k a n cap l
  cbx : w.heap[cb]? = some (.cells (chA c) 46 (0, 0))
theorem PC.below {W w w' : World} {bs cb : Nat} {st : Int} {p : ByteArray} {k : Int} {a : Option Addr} {n cap : Nat} {l : List SeenT} {c : ChT} (h : PC W w bs cb st p k a n cap l c) (hb : Below w.heap.size w w') : PC W w' bs cb st p k a n cap l c := ⟨h.pat.below hb, kept_block hb h.cbx⟩
theorem PC.belowD {W w w' : World} {bs cb : Nat} {st : Int} {p : ByteArray} {k : Int} {a : Option Addr} {n cap : Nat} {l : List SeenT} {c : ChT} (h : PC W w bs cb st p k a n cap l c) (hb : Below w.drew.heap.size w.drew w') : PC W w' bs cb st p k a n cap l c := h.below (of_drew hb)
theorem owns_formA {w : World} {B e s n : Nat} {v : Value} {xs : List Value} (h : w.ownsRow B e s v n xs) : ∃ a c, v = .slice a n c := by
  rcases h.2 with ⟨h0, h1⟩ | ⟨g, cap, cur, hv, _⟩
  · exact ⟨none, 0, by rw [h0, h1]⟩
  · exact ⟨_, cap, hv⟩
/-- Another row stands in the box. -/
theorem PAt.put {W w : World} {bs : Nat} {st : Int} {p : ByteArray} {k : Int} {v0 : Value} {a : Option Addr} {n cap : Nat} {l : List SeenT} (low : Below W.heap.size W w) (bsl : W.heap.size ≤ bs) (box : w.heap[bs]? = some (.cells #[.int .i64 st, .string p, .int .i64 k, v0] 24 (0, 0))) (len : l.length = n) (row : w.ownsRow W.heap.size 52 3 (.slice a n cap) n (seCs l)) :
    PAt W (w.setCell ⟨bs, 3, none⟩ (.slice a n cap)) bs st p k a n cap l := by
  refine ⟨low.setCell bsl _, bsl, same_blk (i := 3) (v := .slice a n cap) (cs' := shA st p k a n cap) box rfl, len, owns_same row (fun j hj => Below.heap_setCell w ⟨bs, 3, none⟩ _ j (fun e => ?_))⟩
  rcases row.2 with ⟨h0, _⟩ | ⟨g, cap', cur, hv, _, hg, _⟩
  · cases h0; cases hj
  · cases hv
    cases hj
    rw [show g = bs from e, box] at hg
    cases hg
theorem below_chg {W w w' : World} {S : Nat → Prop} (h : Below W.heap.size W w) (hc : Chg w w' S) (hs : ∀ k, S k → W.heap.size ≤ k) : Below W.heap.size W w' :=
  ⟨hc.os.trans h.os, hc.tape.trans h.tape, hc.output.trans h.output, Nat.le_trans h.size hc.size, fun k hk => (hc.block k (Nat.lt_of_lt_of_le hk h.size) (fun hS => by have := hs k hS; omega)).trans (h.block k hk)⟩
theorem insert_n (base gx i n : Nat) (a : Option Addr) (cap : Nat) (l : List SeenT) (x : SeenT) (w : World) (hn : l.length = n) (ho : w.ownsRow base 52 3 (.slice a n cap) n (seCs l)) (hi : i ≤ n) (hl : n ≤ 100000) (hx : w.heap[gx]? = some (.cells (seC x) 52 (0, 0))) (hne : (Value.slice a n cap).ownBlock ≠ some gx) (hB : base ≤ w.heap.size) :
    Calls Tryz.prog 40 #[.slice a n cap, .int .i64 i, .slice (some ⟨gx, 0, none⟩) 1 1] w fun e w' =>
      ∃ a' cap', e = .returned (.slice a' (n + 1) cap') ∧ w'.ownsRow base 52 3 (.slice a' (n + 1) cap') (n + 1) (seCs (l.take i ++ x :: l.drop i)) ∧ Chg w w' (fun k => (Value.slice a n cap).ownBlock = some k) := by
  subst hn
  refine (insert_any base gx i a cap l x w ho hi hl hx hne hB).mono ?_
  rintro e w' ⟨v', rfl, h1, h2⟩
  obtain ⟨a', cap', rfl⟩ := owns_formA h1
  exact ⟨a', cap', rfl, h1, h2⟩
theorem delete_n (base i n : Nat) (a : Option Addr) (cap : Nat) (l : List SeenT) (w : World) (hn : l.length = n) (ho : w.ownsRow base 52 3 (.slice a n cap) n (seCs l)) (hi : i < n) :
    Calls Tryz.prog 44 #[.slice a n cap, .int .i64 i, .int .i64 ((i : Int) + 1)] w fun e w' =>
      e = .returned (.slice a (n - 1) cap) ∧ w'.ownsRow base 52 3 (.slice a (n - 1) cap) (n - 1) (seCs (l.take i ++ l.drop (i + 1))) ∧ Chg w w' (fun k => (Value.slice a n cap).ownBlock = some k) := by
  subst hn
  obtain ⟨g, rfl⟩ : ∃ g, a = some ⟨g, 0, none⟩ := by
    rcases ho.2 with ⟨h0, h1⟩ | ⟨g', cap', cur, hv, _⟩
    · omega
    · cases hv; exact ⟨g', rfl⟩
  obtain ⟨cur, hr, hbg⟩ := rw_of ho
  refine (delete_any g cap i l cur w hr hi).mono ?_
  rintro e w' ⟨rfl, ⟨cur', h'⟩, hc⟩
  refine ⟨rfl, ?_, hc.mono (fun k _ h => by rw [h]; rfl)⟩
  have := h'.owns (base := base) hbg
  rw [show (l.take i ++ l.drop (i + 1)).length = l.length - 1 by simp; omega] at this
  exact this
theorem seCs_set : ∀ (l : List SeenT) (i : Nat) (x : SeenT), i < l.length → (((seCs l).set (i * 3) (.string x.p)).set (i * 3 + 1) (.string x.d)).set (i * 3 + 2) (.int .i64 x.v) = seCs (l.take i ++ x :: l.drop (i + 1))
  | [], i, x, h => by simp at h
  | y :: r, 0, x, h => by simp [seCs]
  | y :: r, i + 1, x, h => by
    have h1 : seCs (y :: r) = y.cells ++ seCs r := by simp [seCs]
    have h2 : seCs ((y :: r).take (i + 1) ++ x :: (y :: r).drop (i + 1 + 1)) = y.cells ++ seCs (r.take i ++ x :: r.drop (i + 1)) := by simp [seCs]
    rw [h1, h2, ← seCs_set r i x (by simpa using h)]
    rw [show (i + 1) * 3 = y.cells.length + i * 3 by simp; omega]
    rw [List.set_append_right _ _ (by omega), List.set_append_right _ _ (by omega), List.set_append_right _ _ (by omega)]
    congr 3
    · congr 2 <;> omega
    · omega
    · omega
theorem step_call2 {P : Program} {ops : Array Oper} {o : Oper} {a : Act} {w : World} {K : Act → World → Prop} {Q : Exit → Act → World → Prop} {E : Prop} (hgd : o.guard = none) (f : FuncId) (x y : Operand) (ts : Array TypeId)
    (ho : o.op = .call { callee := .value (.func f), args := #[x, y], argTypes := ts }) (ef : ∀ args w, (callFunc f args).run P w = .ok (.enter f args) w) (u v : Value) (hx : a.eval x = u) (hy : a.eval y = v) {R : Ending → World → Prop} (hc : Calls P f #[u, v] w R)
    (h : ∀ e w', R e w' → ∃ r, e = .returned r ∧ K (a.put o.dst r) w') :
    if Region.wanted o (yielded ops a.tmps) = true then Oper.wp P o a w K Q else E := by
  have hw : Region.wanted o (yielded ops a.tmps) = true := by simp [Region.wanted, hgd]
  rw [if_pos hw]
  have he : (execOp a.eval o).run P w = .ok (.enter f #[u, v]) w := by
    have hf : a.eval (.func f) = .func (.func f) #[] #[] := rfl
    simp [execOp, ho, resolve, invoke, Deferred.ofValue, hx, hy, hf, ef]
  unfold Oper.wp
  rw [he, Oper.upon_enter]
  refine hc.mono ?_
  intro e w' hR
  obtain ⟨r, rfl, hk⟩ := h e w' hR
  exact hk
theorem step_call3 {P : Program} {ops : Array Oper} {o : Oper} {a : Act} {w : World} {K : Act → World → Prop} {Q : Exit → Act → World → Prop} {E : Prop} (hgd : o.guard = none) (f : FuncId) (x y z : Operand) (ts : Array TypeId)
    (ho : o.op = .call { callee := .value (.func f), args := #[x, y, z], argTypes := ts }) (ef : ∀ args w, (callFunc f args).run P w = .ok (.enter f args) w) (u v t : Value) (hx : a.eval x = u) (hy : a.eval y = v) (hz : a.eval z = t) {R : Ending → World → Prop} (hc : Calls P f #[u, v, t] w R)
    (h : ∀ e w', R e w' → ∃ r, e = .returned r ∧ K (a.put o.dst r) w') :
    if Region.wanted o (yielded ops a.tmps) = true then Oper.wp P o a w K Q else E := by
  have hw : Region.wanted o (yielded ops a.tmps) = true := by simp [Region.wanted, hgd]
  rw [if_pos hw]
  have he : (execOp a.eval o).run P w = .ok (.enter f #[u, v, t]) w := by
    have hf : a.eval (.func f) = .func (.func f) #[] #[] := rfl
    simp [execOp, ho, resolve, invoke, Deferred.ofValue, hx, hy, hz, hf, ef]
  unfold Oper.wp
  rw [he, Oper.upon_enter]
  refine hc.mono ?_
  intro e w' hR
  obtain ⟨r, rfl, hk⟩ := h e w' hR
  exact hk
abbrev PlayEnd (W : World) (bs : Nat) (st : Int) (p : ByteArray) (k : Int) (l : List SeenT) (c : ChT) (e : Ending) (w' : World) : Prop :=
  (stepF k p l c = none ∧ e = .returned (.bool false) ∧ Below W.heap.size W w') ∨ (∃ m, stepF k p l c = some m ∧ e = .returned (.bool true) ∧ ∃ a' cap', PAt W w' bs st p k a' m.length cap' m)
theorem isP_size' {x : ByteArray} (h : isP x = true) : x.size ≤ 102 := by
  obtain ⟨⟨c, xs⟩, hp⟩ : ∃ q, parse x = q := ⟨_, rfl⟩
  have hc : c = 0 := by have := isP_iff.1 h; rw [hp] at this; exact this
  subst hc
  have hl := parse_len hp
  rw [← parse_back hp]
  exact place_size hl.1 hl.2
end Go.Proofs.YtbamkdohaofgdaaGreatDoor
