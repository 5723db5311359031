/-
  tree: play: one op, on the list of nodes.
-/
import Derived.Test.YthelfbdkbldhjaaGreatDoorTMakeR
import Derived.Test.YthelfbdkbldhjaaGreatDoorTPlay3
import Derived.Test.YthelfbdkbldhjaaGreatDoorTOps
import Derived.Test.YthelfbdkbldhjaaGreatDoorParse
import Derived.Maps.AppendAt
namespace Go.Proofs.YthelfbdkbldhjaaGreatDoor
open Go.RowKit Go.Maps Go.WideShapes
set_option linter.unusedVariables false
set_option linter.unusedSimpArgs false
attribute [local go_sem ↓] Go.wp_at_zero Go.wp_at_succ

/-- An op's numbers are numbers. -/
def OpT.Ok (o : OpT) : Prop := -9223372036854775808 ≤ o.f ∧ o.f < 9223372036854775808
theorem mal_all (o : OpT) (ho : o.Ok) (rb : Nat) (s : Int) (w : World) (hg : GroundT w) (hr : w.cell? ⟨rb, 0, none⟩ = some (.int .i64 s)) (hrl : rb < w.heap.size) :
    Calls Tryz.prog 61 #[.pointer (some ⟨rb, 0, none⟩), opV o.k o.p o.d o.v o.f] w fun e w' => e = .returned (.int .i64 (malC s o.k o.p o.d o.f)) ∧ Below w.heap.size w w' := by
  by_cases hk : o.k < 1 ∨ 7 < o.k
  · have e : malC s o.k o.p o.d o.f = 48 := by unfold malC; rw [if_pos hk]
    rw [e]
    exact mal_out hk rb s o.p o.d o.v o.f w
  · by_cases hf : o.k = 1 ∧ ¬ (0 ≤ o.f ∧ o.f ≤ 3)
    · have e : malC s o.k o.p o.d o.f = 48 := by unfold malC; rw [if_neg hk, if_pos hf]
      rw [e, hf.1]
      exact mal_flag rb s o.p o.d o.v o.f ho.1 ho.2 hf.2 w hg
    · exact mal_any (by omega) (by omega) rb s o.p o.d o.v o.f (fun h => Classical.byContradiction fun h' => hf ⟨h, h'⟩) w hg hr hrl
abbrev PlayEnd (w : World) (base rb mb n : Nat) (s st : Int) (chV : Value) (cn : Nat) (cs : List Value) (M : Int × List Nd × ResT × List ChT) (e : Ending) (w' : World) : Prop := ∃ ka kn kc, e = .returned (.tuple #[ReqE.V M.2.2.1 ka kn kc, .int .i64 M.1]) ∧ ReqE w base rb mb n s st chV cn cs M.2.2.1 M.2.1 M.2.2.2 ka kn kc w'
set_option maxHeartbeats 16000000 in
set_option maxRecDepth 100000 in
/-- An op that is refused whatever nodes there are. -/
theorem play_bad (base rb mb n : Nat) (D : DataW Value) (s st : Int) (chV : Value) (cn : Nat) (cs : List Value) (k : Int) (p d : ByteArray) (v f : Int) (w : World) (hg : GroundT w) (hR : ReqAt w base rb mb n D s st chV cn cs) (c : Int) (hc0 : c ≠ 0)
    (hM : ∀ W, GroundT W → W.cell? ⟨rb, 0, none⟩ = some (.int .i64 s) → rb < W.heap.size → Calls Tryz.prog 61 #[.pointer (some ⟨rb, 0, none⟩), opV k p d v f] W fun e w' => e = .returned (.int .i64 c) ∧ Below W.heap.size W w') :
    Calls Tryz.prog 37 #[.pointer (some ⟨rb, 0, none⟩), opV k p d v f] w fun e w' => e = .returned (.tuple #[noRes, .int .i64 c]) ∧ Below w.heap.size w w' := by
  have HM : Hid _ := hM
  have HR : Hid _ := hR
  have HG : Hid _ := hg
  have hcb : (c == 0) = false := by simp [hc0]
  have hcn : (c != 0) = true := by simp [hc0]
  clear hR hg hM
  go_enter Tryz.func37, Tryz.ntmps37
  have HW0 : Hid (Below w.heap.size w ((w.alloc (.cells #[.int .i64 k, .string p, .string d, .int .i64 v, .int .i64 f] 63)).alloc (.cells #[.string ⟨#[]⟩, .string ⟨#[]⟩, .int .i64 0, .int .i64 0, .int .i64 0, .int .i64 0, .slice none 0 0] 87))) := ((Below.refl _ _).alloc (Nat.le_refl _) _).alloc (by simp) _
  have HR0 : Hid _ := HR.out.below HW0.out
  go_wp2_with fail
  refine (HM.out _ (HG.out.below HW0.out) (cells_4 HR0.out.box).1 HR0.out.lt.1).mono ?_
  rintro e w1 ⟨rfl, hb1⟩
  have HB1 : Hid (Below w.heap.size w w1) := trans2 HW0.out hb1
  have HZ1 : Hid (w1.heap[w.heap.size + 1]? = some (.cells #[.string ⟨#[]⟩, .string ⟨#[]⟩, .int .i64 0, .int .i64 0, .int .i64 0, .int .i64 0, .slice none 0 0] 87 (0, 0))) := kept_block hb1 (heap_alloc2_new _ _ _)
  obtain ⟨b0, b1, b2, b3, b4, b5, b6⟩ := cells_7 HZ1.out
  have hfz := free_7 HZ1.out
  clear hb1
  go_wp2
  exact bodyPost_ret (results_cell_tmp rfl _ _ (w.heap.size + 1) 87 _ (0, 0) _ (.int .i64 c) rfl rfl (fill_7 HZ1.out) Tryz.underlying87 rfl (by kernel_rfl)) rfl ⟨rfl, fillB_7 HB1.out (by omega)⟩
/-- A result's box keeps what it is while a request is turned. -/
theorem ReqE.box {w W w2 : World} {base rb mb n zb : Nat} {s st : Int} {chV : Value} {cn n0 : Nat} {D : DataW Value} {cs : List Value} {R : ResT} {T : List Nd} {ch : List ChT} {ka : Option Addr} {kn kc : Nat} {cs0 : Array Value} {t : TypeId} (h : ReqE W base rb mb n s st chV cn cs R T ch ka kn kc w2) (hR : ReqAt W base rb mb n0 D s st chV cn cs) (hz : W.heap[zb]? = some (.cells cs0 t (0, 0))) (ht : t ≠ 85) (h1 : zb ≠ rb) (h2 : zb ≠ mb) : w2.heap[zb]? = some (.cells cs0 t (0, 0)) :=
  kept_chg h.chg hz (fun e => by
    rcases e with e | e | e
    · exact h1 e
    · exact h2 e
    · obtain ⟨cur, hcur⟩ := owns_kind hR.row e
      rw [hz] at hcur
      simp at hcur
      exact ht hcur.2)
set_option maxHeartbeats 16000000 in
set_option maxRecDepth 100000 in
theorem play_mk (base rb mb n : Nat) (D : DataW Value) (s st : Int) (chV : Value) (cn : Nat) (cs : List Value) (p d : ByteArray) (v f : Int) (w : World) (hg : GroundT w) (hR : ReqAt w base rb mb n D s st chV cn cs) (M : Int × List Nd × ResT × List ChT)
    (hM : ∀ W, GroundT W → W.cell? ⟨rb, 0, none⟩ = some (.int .i64 s) → rb < W.heap.size → Calls Tryz.prog 61 #[.pointer (some ⟨rb, 0, none⟩), opV 1 p d v f] W fun e w' => e = .returned (.int .i64 0) ∧ Below W.heap.size W w')
    (hK : ∀ W, Below w.heap.size w W → Calls Tryz.prog 62 #[.pointer (some ⟨rb, 0, none⟩), opV 1 p d v f] W (PlayEnd W base rb mb n s st chV cn cs M)) :
    Calls Tryz.prog 37 #[.pointer (some ⟨rb, 0, none⟩), opV 1 p d v f] w (PlayEnd w base rb mb n s st chV cn cs M) := by
  have HM : Hid _ := hM
  have HK : Hid _ := hK
  have HR : Hid _ := hR
  have HG : Hid _ := hg
  obtain ⟨mc, MT, ⟨mp, md, mv, mm, mmc, mo, mkids⟩, Mch⟩ := M
  clear hR hg hM hK
  go_enter Tryz.func37, Tryz.ntmps37
  have HW0 : Hid (Below w.heap.size w ((w.alloc (.cells #[.int .i64 1, .string p, .string d, .int .i64 v, .int .i64 f] 63)).alloc (.cells #[.string ⟨#[]⟩, .string ⟨#[]⟩, .int .i64 0, .int .i64 0, .int .i64 0, .int .i64 0, .slice none 0 0] 87))) := ((Below.refl _ _).alloc (Nat.le_refl _) _).alloc (by simp) _
  have HR0 : Hid _ := HR.out.below HW0.out
  go_wp2_with fail
  refine (HM.out _ (HG.out.below HW0.out) (cells_4 HR0.out.box).1 HR0.out.lt.1).mono ?_
  rintro e w1 ⟨rfl, hb1⟩
  have HB1 : Hid (Below w.heap.size w w1) := trans2 HW0.out hb1
  have HO1 : Hid (w1.heap[w.heap.size]? = some (.cells #[.int .i64 1, .string p, .string d, .int .i64 v, .int .i64 f] 63 (0, 0))) := kept_block hb1 (heap_alloc2_old _ _ _)
  have HZ1 : Hid (w1.heap[w.heap.size + 1]? = some (.cells #[.string ⟨#[]⟩, .string ⟨#[]⟩, .int .i64 0, .int .i64 0, .int .i64 0, .int .i64 0, .slice none 0 0] 87 (0, 0))) := kept_block hb1 (heap_alloc2_new _ _ _)
  have HR1 : Hid _ := HR0.out.below hb1
  have HG1 : Hid _ := HG.out.below HB1.out
  obtain ⟨o0, o1, o2, o3, o4⟩ := cells_5 HO1.out
  have n1 := HG1.out.need 1 0 true rfl
  simp only [Nat.reduceMul, Nat.reduceAdd] at n1
  clear hb1
  go_wp2_with fail
  refine (HK.out _ HB1.out).mono ?_
  rintro e w2 ⟨ka, kn, kc, rfl, hE⟩
  have HE : Hid _ := hE
  have hrb := HR.out.lt
  have hs1 := HB1.out.size
  have HZ2 : Hid _ := hE.box (w := w) HR1.out HZ1.out (by decide) (by omega) (by omega)
  obtain ⟨b0, b1, b2, b3, b4, b5, b6⟩ := cells_7 HZ2.out
  have hfz := free_7 HZ2.out
  clear hE o0 o1 o2 o3 o4 n1
  go_wp2_with fail
  exact bodyPost_ret (results_cell_tmp rfl _ _ (w.heap.size + 1) 87 _ (0, 0) _ (.int .i64 mc) rfl rfl (fill_7 HZ2.out) Tryz.underlying87 rfl (by kernel_rfl)) rfl ⟨ka, kn, kc, rfl, HE.out.fin HB1.out HZ2.out (by omega) hrb.1 hrb.2⟩
end Go.Proofs.YthelfbdkbldhjaaGreatDoor
namespace Go.Proofs.YthelfbdkbldhjaaGreatDoor
open Go.RowKit Go.ChangeShapes Go.WideShapes Go.ChangeAt
set_option linter.unusedSimpArgs false

/-- A step of a script. -/
structure StT where
  k : Int
  s : Int
  st : Int
  a : Option Addr
  c : Nat
  os : List OpT
  pl : ByteArray
  nn : Int
abbrev StT.cells (x : StT) : List Value := [.int .i64 x.k, .int .i64 x.s, .int .i64 x.st, .slice x.a x.os.length x.c, .string x.pl, .int .i64 x.nn]
/-- A script that came in. -/
def Steps (W : World) (a : Option Addr) (l : List StT) : Prop :=
  ∀ i x, l[i]? = some x → ∃ b f, a = some ⟨b, f, none⟩ ∧ b < W.heap.size ∧ (∀ j v, x.cells[j]? = some v → W.cell? ⟨b, f + i * 6 + j, none⟩ = some v) ∧ OpsAt W W.heap.size x.a x.os ∧ (∀ o ∈ x.os, o.Ok)
theorem opsAt_mono {w : World} {B B' : Nat} {a : Option Addr} {os : List OpT} (h : OpsAt w B a os) (hB : B ≤ B') : OpsAt w B' a os := fun i o hi => by
  obtain ⟨b, f, h1, h2, h3⟩ := h i o hi
  exact ⟨b, f, h1, Nat.lt_of_lt_of_le h2 hB, h3⟩
theorem OpsAt.below {w w' : World} {base : Nat} {a : Option Addr} {os : List OpT} (h : OpsAt w base a os) (hb : Below base w w') : OpsAt w' base a os := by
  intro i o hi
  obtain ⟨b, f, h1, h2, h3⟩ := h i o hi
  exact ⟨b, f, h1, h2, fun j x hx => by rw [hb.cell (p := ⟨b, f + i * 5 + j, none⟩) h2]; exact h3 j x hx⟩
theorem list_of {α : Type} {P : Nat → α → Prop} : ∀ n, (∀ i, i < n → ∃ x, P i x) → ∃ l : List α, l.length = n ∧ ∀ (j : Nat) (x : α), l[j]? = some x → P j x
  | 0, _ => ⟨[], rfl, fun j x h => by simp at h⟩
  | n + 1, h => by
    obtain ⟨l, hl, hp⟩ := list_of n (fun i hi => h i (by omega))
    obtain ⟨x, hx⟩ := h n (by omega)
    refine ⟨l ++ [x], by simp [hl], fun j y hy => ?_⟩
    by_cases hj : j < l.length
    · rw [List.getElem?_append_left hj] at hy
      exact hp j y hy
    · rw [List.getElem?_append_right (by omega)] at hy
      have hj0 : j - l.length = 0 := by
        rcases Nat.eq_zero_or_pos (j - l.length) with g | g
        · exact g
        · rw [List.getElem?_eq_none (by simp; omega)] at hy
          cases hy
      rw [hj0] at hy
      have : j = n := by omega
      subst this
      have e : x = y := by simpa using hy
      subst e
      exact hx
theorem weights_all {H : Type} {P : Program} {e : TypeId} {d : DataW H} {n : Nat} : ∀ {l : List (DataW H)}, d ∈ l → n ∈ d.weights P e → n ∈ DataW.weightsAll P e l
  | x :: r, hd, hn => by
    simp only [DataW.weightsAll, List.mem_append]
    rcases List.mem_cons.1 hd with rfl | hd
    · exact .inl hn
    · exact .inr (weights_all hd hn)
theorem addr_add' (b o j : Nat) : (⟨b, o, none⟩ : Addr).add j = ⟨b, o + j, none⟩ := by unfold Addr.add; split <;> simp_all
theorem cellsOp : Tryz.prog.cellsOf 63 = 5 := by kernel_rfl
theorem cellsStep : Tryz.prog.cellsOf 34 = 6 := by kernel_rfl
theorem bytesOp : Tryz.prog.bytesOf 63 = 56 := by kernel_rfl
theorem op_of {H : Type} {enc : TypeId × Value → H} {W : World} {n : Nat} {cs : List Value} {y : DataW H × List MemPlace} (h : DataW.trod enc Tryz.prog W 0 (fun _ => true) true n 63 cs = some y) : ∃ o : OpT, cs = o.cells ∧ o.Ok := by
  obtain ⟨xs, m, _, hx, hl, hxl, hf⟩ := DataW.trod_struct Tryz.underlying63 h
  rw [cellsOp] at hl
  obtain ⟨c0, c1, c2, c3, c4, rfl⟩ := list5 hl
  obtain ⟨x0, x1, x2, x3, x4, rfl⟩ := list5 (l := xs) hxl
  obtain ⟨z0, q0, _⟩ := DataW.trod_int Tryz.underlying3 (hf 0 _ rfl)
  obtain ⟨z1, q1, _⟩ := DataW.trod_string Tryz.underlying9 (hf 1 _ rfl)
  obtain ⟨z2, q2, _⟩ := DataW.trod_string Tryz.underlying9 (hf 2 _ rfl)
  obtain ⟨z3, q3, _⟩ := DataW.trod_int Tryz.underlying3 (hf 3 _ rfl)
  obtain ⟨z4, q4, _, hw4⟩ := DataW.trod_int Tryz.underlying3 (hf 4 _ rfl)
  simp [cells3', cells9'] at q0 q1 q2 q3 q4
  subst q0 q1 q2 q3 q4
  exact ⟨⟨z0, z1, z2, z3, z4⟩, rfl, by simp only [Lit.wf, IntKind.min, IntKind.max, IntKind.signed, IntKind.bits, Bool.and_eq_true, decide_eq_true_eq, if_pos] at hw4; have := hw4.1; have := hw4.2; exact ⟨show -9223372036854775808 ≤ z4 by omega, show z4 < 9223372036854775808 by omega⟩⟩
end Go.Proofs.YthelfbdkbldhjaaGreatDoor
namespace Go.Proofs.YthelfbdkbldhjaaGreatDoor
open Go.RowKit

/-- No slash from f up to k. -/
def Clear (s : ByteArray) (f k : Nat) : Prop := ∀ b ∈ (s.data.toList.drop f).take (k - f), b ≠ 47

theorem Clear.self (s : ByteArray) (f : Nat) : Clear s f f := by
  intro b hb
  rw [Nat.sub_self] at hb
  simp at hb
theorem Clear.step {s : ByteArray} {f k : Nat} (h : Clear s f k) (hf : f ≤ k) (hk : k < s.size) (hb : s[k] ≠ 47) : Clear s f (k + 1) := by
  intro b hm
  have e : k + 1 - f = (k - f) + 1 := by omega
  have hlen : k - f < (s.data.toList.drop f).length := by
    rw [List.length_drop]
    have : s.data.toList.length = s.size := by simp
    omega
  rw [e, List.take_succ_eq_append_getElem hlen, List.mem_append] at hm
  rcases hm with hm | hm
  · exact h b hm
  · rw [List.mem_singleton, List.getElem_drop] at hm
    have e2 : f + (k - f) = k := by omega
    simp only [e2] at hm
    rw [hm]
    exact hb

theorem data_extract (s : ByteArray) (f k : Nat) : (s.extract f k).data.toList = (s.data.toList.drop f).take (k - f) := by
  rw [Lib.extract_data]

theorem cut_at {s : ByteArray} {f k : Nat} (h : Clear s f k) (hf : f ≤ k) (hk : k < s.size) (hb : s[k] = 47) :
    cutL (s.data.toList.drop f) = (s.extract f k).data.toList :: cutL (s.data.toList.drop (k + 1)) := by
  have hl : k < s.data.toList.length := by simpa using hk
  have e : s.data.toList.drop f = (s.data.toList.drop f).take (k - f) ++ 47 :: s.data.toList.drop (k + 1) := by
    have e1 := (List.take_append_drop (k - f) (s.data.toList.drop f)).symm
    rw [List.drop_drop, show f + (k - f) = k by omega, List.drop_eq_getElem_cons hl] at e1
    have e2 : s.data.toList[k] = 47 := hb
    rw [e2] at e1
    exact e1
  rw [data_extract]
  conv => lhs; rw [e]
  exact cutL_pre _ _ h
theorem cut_end {s : ByteArray} {f : Nat} (h : Clear s f s.size) : cutL (s.data.toList.drop f) = [(s.extract f s.size).data.toList] := by
  have e : (s.data.toList.drop f).take (s.size - f) = s.data.toList.drop f := List.take_of_length_le (by simp)
  rw [data_extract, e]
  unfold Clear at h
  rw [e] at h
  exact cutL_all _ h

/-- What the loop has gathered at k. -/
def Gathered (s : ByteArray) (k f : Nat) (done : List ByteArray) : Prop :=
  (k ≤ s.size ∧ 1 ≤ f ∧ f ≤ k ∧ Clear s f k ∧ done.map (·.data.toList) ++ cutL (s.data.toList.drop f) = cutL (s.data.toList.drop 1)) ∨
  (k = s.size + 1 ∧ done.map (·.data.toList) = cutL (s.data.toList.drop 1))

theorem gathered_len {s : ByteArray} {k f : Nat} {done : List ByteArray} (h : Gathered s k f done) : done.length ≤ s.size + 1 := by
  have hl : (cutL (s.data.toList.drop 1)).length ≤ s.size + 1 := by
    rw [cutL_length]
    have h1 := List.count_le_length (a := 47) (l := s.data.toList.drop 1)
    have h2 : s.data.toList.length = s.size := by simp
    rw [List.length_drop] at h1
    omega
  rcases h with ⟨_, _, _, _, h⟩ | ⟨_, h⟩
  · have := congrArg List.length h
    simp only [List.length_append, List.length_map] at this
    omega
  · have := congrArg List.length h
    simp only [List.length_map] at this
    omega
theorem gathered_cut {s : ByteArray} {k f : Nat} {done : List ByteArray} (h : Gathered s k f done) (hk : k < s.size) (hb : s[k] = 47) : Gathered s (k + 1) (k + 1) (done ++ [s.extract f k]) := by
  rcases h with ⟨h1, h2, h3, h4, h5⟩ | ⟨h1, _⟩
  · refine .inl ⟨by omega, by omega, Nat.le_refl _, Clear.self _ _, ?_⟩
    rw [← h5, cut_at h4 h3 hk hb]
    simp
  · omega
theorem gathered_on {s : ByteArray} {k f : Nat} {done : List ByteArray} (h : Gathered s k f done) (hk : k < s.size) (hb : s[k] ≠ 47) : Gathered s (k + 1) f done := by
  rcases h with ⟨h1, h2, h3, h4, h5⟩ | ⟨h1, _⟩
  · exact .inl ⟨by omega, h2, by omega, h4.step h3 hk hb, h5⟩
  · omega
theorem gathered_end {s : ByteArray} {f : Nat} {done : List ByteArray} (h : Gathered s s.size f done) : Gathered s (s.size + 1) (s.size + 1) (done ++ [s.extract f s.size]) := by
  rcases h with ⟨h1, h2, h3, h4, h5⟩ | ⟨h1, _⟩
  · refine .inr ⟨rfl, ?_⟩
    rw [← h5, cut_end h4]
    simp
  · omega
theorem gathered_all {s : ByteArray} {f : Nat} {done : List ByteArray} (h : Gathered s (s.size + 1) f done) : done = cutB (mk (s.data.toList.drop 1)) := by
  rcases h with ⟨h1, _⟩ | ⟨_, h⟩
  · omega
  · rw [cutB_mk, ← h, List.map_map]
    conv => lhs; rw [← List.map_id done]
    apply List.map_congr_left
    intro x _
    exact (mk_data x).symm

theorem Tryz.info9 : (Tryz.prog.info? 9).map (fun i => (i.zero, i.size, i.bytes)) = some (some (.string ByteArray.empty), 1, 16) := by kernel_rfl

theorem lst_of_owns {w : World} {base : Nat} {v : Value} {xs : List ByteArray} (h : w.ownsRow base 9 1 v xs.length (xs.map Value.string)) :
    ∃ a c, v = .slice a xs.length c ∧ Lst w a xs ∧ (xs.length ≤ c ∧ c ≤ maxLen) := by
  rcases h.2 with ⟨rfl, h0⟩ | ⟨g, cap, cur, rfl, hg, hb, hn, hc, hs, ht⟩
  · have : xs = [] := List.eq_nil_of_length_eq_zero h0
    subst this
    exact ⟨none, 0, rfl, .inl rfl, Nat.le_refl _, Nat.zero_le _⟩
  · refine ⟨some ⟨g, 0, none⟩, cap, rfl, .inr ⟨g, 0, rfl, lt_of_block' hb, fun j x hx => ?_⟩, hn, hc⟩
    have hj : j < xs.length := by
      rw [List.getElem?_eq_some_iff] at hx
      exact hx.1
    rw [Nat.zero_add, h.cellAt j (by omega)]
    simp [hx]

theorem rel_app {w wr w1 : World} {u v' : Value} {o : Obj} {done : List ByteArray} {x : ByteArray} (hown : wr.ownsRow w.heap.size 9 1 u done.length (done.map Value.string)) (hbel : Below w.heap.size w wr)
    (hown' : w1.ownsRow w.heap.size 9 1 v' (done.length + 1) (done.map Value.string ++ [.string x])) (hgrow : (wr.alloc o).grownBy w1 u.ownBlock) :
    w1.ownsRow w.heap.size 9 1 v' (done ++ [x]).length ((done ++ [x]).map Value.string) ∧ Below w.heap.size w w1 :=
  ⟨by simpa using hown', (hbel.alloc hbel.size o).grown hgrow (by have := hbel.size; simp; omega) (fun j hj => (hown.lt j hj).1)⟩

set_option maxHeartbeats 1600000 in
set_option maxRecDepth 100000 in
theorem pieces_any (s : ByteArray) (h1 : 1 ≤ s.size) (h2 : s.size ≤ 65536) (w : World) :
    Calls Tryz.prog 91 #[.string s] w fun e w' =>
      ∃ a c, e = .returned (.slice a (cutB (mk (s.data.toList.drop 1))).length c) ∧ Lst w' a (cutB (mk (s.data.toList.drop 1))) ∧ ((cutB (mk (s.data.toList.drop 1))).length ≤ c ∧ c ≤ maxLen) ∧ Below w.heap.size w w' := by
  obtain ⟨i0, hi, hz0, hz1, hz2⟩ := info_parts Tryz.info9
  go_enter Tryz.func91, Tryz.ntmps91
  go_wp2
  go_loopw [3, 4, 5] (fun v fr i wr => ∃ (k f : Nat) (done : List ByteArray), i = .int .i64 k ∧ fr = .int .i64 f ∧ 1 ≤ k ∧ k ≤ s.size + 1 ∧ wr.ownsRow w.heap.size 9 1 v done.length (done.map Value.string) ∧ Below w.heap.size w wr ∧ Hid (Gathered s k f done))
    (fun _ _ i _ => s.size + 1 - (intOf i).toNat)
  case atStart =>
    exact ⟨1, 1, [], rfl, rfl, by omega, by omega, World.ownsRow_nil _ _ _ _, Below.refl _ _, .inl ⟨h1, by omega, by omega, Clear.self _ _, rfl⟩⟩
  case round =>
    obtain ⟨k, f, done, rfl, rfl, hk1, hk2, hown, hbel, HG⟩ := hrel
    have hdl := gathered_len HG.out
    by_cases hlt : k < s.size
    · have hf : f ≤ k := by rcases HG.out with ⟨_, _, h, _⟩ | ⟨h, _⟩ <;> omega
      obtain ⟨n, hn⟩ : ∃ n : Nat, s[k].toNat = n := ⟨_, rfl⟩
      have hne : ((k : Int) == (s.size : Int)) = false := by simp; omega
      by_cases hb : n = 47
      · have HX : Hid _ := gathered_cut HG.out hlt (UInt8.toNat_inj.mp (hn.trans hb))
        have hb1 : ((n : Int) == 47) = true := by simp; omega
        go_wp2_with (first
          | (at_builtin; refine wpList_append_own _ rfl _ _ 80 rfl w.heap.size 9 i0 (.string ByteArray.empty) 1 16 Tryz.underlying80 hi hz0 hz1 hz2 rfl (by decide) _ _ _ rfl (hown.alloc _) ⟨wr.heap.size, 0, none⟩ 1 1 [.string (s.extract f k)] rfl rfl (cell_one_new _ _ _) (fun x hx => by simp at hx; subst hx; rfl) (by unfold maxLen; omega) (by omega) (by have := hbel.size; simp; omega) ?_; intro v' w1 hown' hgrow _)
          | go_in)
        have R := rel_app hown hbel hown' hgrow
        go_roundw
        case rel => exact ⟨k + 1, k + 1, done ++ [s.extract f k], by go_num, by go_num, by omega, by omega, R.1, R.2, HX.out⟩
        case measure => simp [intOf]; omega
      · have HX : Hid _ := gathered_on HG.out hlt (fun e => hb (by rw [← hn, e]; rfl))
        have hb1 : ((n : Int) == 47) = false := by simp; omega
        go_wp2
        go_roundw
        case rel => exact ⟨k + 1, f, done, by go_num, rfl, by omega, by omega, hown, hbel, HX.out⟩
        case measure => simp [intOf]; omega
    · by_cases heq : k = s.size
      · subst heq
        have hf : f ≤ s.size := by rcases HG.out with ⟨_, _, h, _⟩ | ⟨h, _⟩ <;> omega
        have HX : Hid _ := gathered_end HG.out
        go_wp2_with (first
          | (at_builtin; refine wpList_append_own _ rfl _ _ 80 rfl w.heap.size 9 i0 (.string ByteArray.empty) 1 16 Tryz.underlying80 hi hz0 hz1 hz2 rfl (by decide) _ _ _ rfl (hown.alloc _) ⟨wr.heap.size, 0, none⟩ 1 1 [.string (s.extract f s.size)] rfl rfl (cell_one_new _ _ _) (fun x hx => by simp at hx; subst hx; rfl) (by unfold maxLen; omega) (by omega) (by have := hbel.size; simp; omega) ?_; intro v' w1 hown' hgrow _)
          | go_in)
        have R := rel_app hown hbel hown' hgrow
        go_roundw
        case rel => exact ⟨s.size + 1, s.size + 1, done ++ [s.extract f s.size], by go_num, by go_num, by omega, by omega, R.1, R.2, HX.out⟩
        case measure => simp [intOf]
      · obtain rfl : k = s.size + 1 := by omega
        have hx := gathered_all HG.out
        rw [hx] at hown
        obtain ⟨a, c, hv, hL, hcap⟩ := lst_of_owns hown
        have HCP : Hid _ := hcap
        have HL : Hid _ := hL
        have HV : Hid _ := hv
        clear hL hv hown hx HG hdl hcap
        go_wp2
        go_ret
        exact ⟨a, c, by rw [← HV.out]; rfl, HL.out, HCP.out, hbel⟩
end Go.Proofs.YthelfbdkbldhjaaGreatDoor
namespace Go.Proofs.YthelfbdkbldhjaaGreatDoor
open Go.RowKit

theorem nameB_of {c : UInt8} {n : Nat} (h : c.toNat = n) : nameB c = (decide (97 ≤ n ∧ n ≤ 122) || decide (65 ≤ n ∧ n ≤ 90) || decide (48 ≤ n ∧ n ≤ 57) || decide (n = 95) || decide (n = 45) || decide (n = 46)) := by
  subst h; rfl

set_option maxHeartbeats 1600000 in
theorem nameOf_long (s : ByteArray) (w : World) (h1 : (1 : Int) ≤ (s.size : Int)) (h2 : (s.size : Int) ≤ 16) (h3 : (s.toList == [46]) = false) (h4 : (s.toList == [46, 46]) = false) :
    Calls Tryz.prog 92 #[.string s] w fun e w' => e = .returned (.bool (isNm s)) ∧ w' = w := by
  have h0 : ¬ (s.size : Int) < 1 := by omega
  have h1' : s.toList.isEmpty = false := by
    rw [ByteArray.toList_eq]
    cases hl : s.data.toList with
    | nil => have : s.size = 0 := by simpa using congrArg List.length hl
             omega
    | cons b l => rfl
  have h2' : decide ((16 : Int) < (s.size : Int)) = false := by simpa using h2
  have h3' : ¬ s.toList = [46] := by simpa using h3
  have HH : Hid (((s.toList.isEmpty = false ∧ (s.size : Int) ≤ 16) ∧ (s.toList == [46]) = false) ∧ (s.toList == [46, 46]) = false) := ⟨⟨⟨h1', h2⟩, h3⟩, h4⟩
  have h16 : s.size ≤ 16 := by omega
  have h00 : decide ((s.size : Int) < 1) = false := by simpa using h1
  clear h1'
  go_enter Tryz.func92, Tryz.ntmps92
  go_wp2
  clear h1 h2 h3 h4 h0 h2' h3' h00
  go_loop [3] (fun i => ∃ k : Nat, i = .int .i64 k ∧ k ≤ s.size ∧ (s.data.toList.take k).all nameB = true) (fun i => s.size - (intOf i).toNat)
  case atStart => exact ⟨0, rfl, by omega, rfl⟩
  case round =>
    obtain ⟨k, rfl, hk, ha⟩ := hrel
    have HA : Hid _ := ha
    clear ha
    by_cases hlt : k < s.size
    · obtain ⟨n, hn⟩ : ∃ n : Nat, s[k].toNat = n := ⟨_, rfl⟩
      have HB : Hid _ := nameB_of hn
      have hn2 : n < 256 := by have := s[k].toNat_lt; omega
      rcases (show n < 45 ∨ n = 45 ∨ n = 46 ∨ n = 47 ∨ (48 ≤ n ∧ n ≤ 57) ∨ (58 ≤ n ∧ n ≤ 64) ∨ (65 ≤ n ∧ n ≤ 90) ∨ (91 ≤ n ∧ n ≤ 94) ∨ n = 95 ∨ n = 96 ∨ (97 ≤ n ∧ n ≤ 122) ∨ 123 ≤ n by omega)
        with hc | hc | hc | hc | hc | hc | hc | hc | hc | hc | hc | hc
      · have e1 : ((n : Int) != 95) = true := by simp; omega
        have e2 : ((n : Int) != 45) = true := by simp; omega
        have e3 : ((n : Int) != 46) = true := by simp; omega
        have hb : nameB s[k] = false := by rw [HB.out]; simp; omega
        have HBB : Hid _ := hb
        clear hb
        go_wp2
        go_ret
        exact ⟨by rw [nm_bad k hlt HBB.out]; rfl, rfl⟩
      · subst hc
        have hb : nameB s[k] = true := by rw [HB.out]; rfl
        have HBB : Hid _ := hb
        clear hb
        go_wp2
        go_round
        case rel => exact ⟨k + 1, by go_num, by omega, nm_step k hlt HBB.out HA.out⟩
        case measure => simp [intOf]; omega
      · subst hc
        have hb : nameB s[k] = true := by rw [HB.out]; rfl
        have HBB : Hid _ := hb
        clear hb
        go_wp2
        go_round
        case rel => exact ⟨k + 1, by go_num, by omega, nm_step k hlt HBB.out HA.out⟩
        case measure => simp [intOf]; omega
      · have e1 : ((n : Int) != 95) = true := by simp; omega
        have e2 : ((n : Int) != 45) = true := by simp; omega
        have e3 : ((n : Int) != 46) = true := by simp; omega
        have hb : nameB s[k] = false := by rw [HB.out]; simp; omega
        have HBB : Hid _ := hb
        clear hb
        go_wp2
        go_ret
        exact ⟨by rw [nm_bad k hlt HBB.out]; rfl, rfl⟩
      · have hb : nameB s[k] = true := by rw [HB.out]; simp; omega
        have HBB : Hid _ := hb
        clear hb
        go_wp2
        go_round
        case rel => exact ⟨k + 1, by go_num, by omega, nm_step k hlt HBB.out HA.out⟩
        case measure => simp [intOf]; omega
      · have e1 : ((n : Int) != 95) = true := by simp; omega
        have e2 : ((n : Int) != 45) = true := by simp; omega
        have e3 : ((n : Int) != 46) = true := by simp; omega
        have hb : nameB s[k] = false := by rw [HB.out]; simp; omega
        have HBB : Hid _ := hb
        clear hb
        go_wp2
        go_ret
        exact ⟨by rw [nm_bad k hlt HBB.out]; rfl, rfl⟩
      · have hb : nameB s[k] = true := by rw [HB.out]; simp; omega
        have HBB : Hid _ := hb
        clear hb
        go_wp2
        go_round
        case rel => exact ⟨k + 1, by go_num, by omega, nm_step k hlt HBB.out HA.out⟩
        case measure => simp [intOf]; omega
      · have e1 : ((n : Int) != 95) = true := by simp; omega
        have d1 : decide ((n : Int) ≤ 90) = false := by simp; omega
        have e2 : ((n : Int) != 45) = true := by simp; omega
        have e3 : ((n : Int) != 46) = true := by simp; omega
        have hb : nameB s[k] = false := by rw [HB.out]; simp; omega
        have HBB : Hid _ := hb
        clear hb
        go_wp2
        go_ret
        exact ⟨by rw [nm_bad k hlt HBB.out]; rfl, rfl⟩
      · subst hc
        have hb : nameB s[k] = true := by rw [HB.out]; rfl
        have HBB : Hid _ := hb
        clear hb
        go_wp2
        go_round
        case rel => exact ⟨k + 1, by go_num, by omega, nm_step k hlt HBB.out HA.out⟩
        case measure => simp [intOf]; omega
      · have e1 : ((n : Int) != 95) = true := by simp; omega
        have d1 : decide ((n : Int) ≤ 90) = false := by simp; omega
        have e2 : ((n : Int) != 45) = true := by simp; omega
        have e3 : ((n : Int) != 46) = true := by simp; omega
        have hb : nameB s[k] = false := by rw [HB.out]; simp; omega
        have HBB : Hid _ := hb
        clear hb
        go_wp2
        go_ret
        exact ⟨by rw [nm_bad k hlt HBB.out]; rfl, rfl⟩
      · have hb : nameB s[k] = true := by rw [HB.out]; simp; omega
        have HBB : Hid _ := hb
        clear hb
        go_wp2
        go_round
        case rel => exact ⟨k + 1, by go_num, by omega, nm_step k hlt HBB.out HA.out⟩
        case measure => simp [intOf]; omega
      · have e1 : ((n : Int) != 95) = true := by simp; omega
        have d1 : decide ((n : Int) ≤ 90) = false := by simp; omega
        have d2 : decide ((n : Int) ≤ 122) = false := by simp; omega
        have e2 : ((n : Int) != 45) = true := by simp; omega
        have e3 : ((n : Int) != 46) = true := by simp; omega
        have hb : nameB s[k] = false := by rw [HB.out]; simp; omega
        have HBB : Hid _ := hb
        clear hb
        go_wp2
        go_ret
        exact ⟨by rw [nm_bad k hlt HBB.out]; rfl, rfl⟩
    · obtain rfl : k = s.size := by omega
      go_wp2
      go_ret
      exact ⟨by rw [nm_good HH.out HA.out]; rfl, rfl⟩

theorem nm_out {s : ByteArray} (h : (((s.size : Int) < 1 ∨ (16 : Int) < (s.size : Int)) ∨ (s.toList == [46]) = true) ∨ (s.toList == [46, 46]) = true) : isNm s = false := by
  rw [ByteArray.toList_eq] at h
  rcases h with ((h | h) | h) | h
  · have : s.size = 0 := by omega
    simp [isNm, this]
  · exact nm_long h
  · simp [isNm, h]
  · simp [isNm, h]

theorem nameOf_any (s : ByteArray) (w : World) :
    Calls Tryz.prog 92 #[.string s] w fun e w' => e = .returned (.bool (isNm s)) ∧ w' = w := by
  by_cases hall : (1 : Int) ≤ (s.size : Int) ∧ (s.size : Int) ≤ 16 ∧ (s.toList == [46]) = false ∧ (s.toList == [46, 46]) = false
  · exact nameOf_long s w hall.1 hall.2.1 hall.2.2.1 hall.2.2.2
  have HN : Hid _ := hall
  clear hall
  go_enter Tryz.func92, Tryz.ntmps92
  go_wp2
  · have h : s.toList = [46] := by assumption
    go_ret
    exact ⟨by rw [nm_dot h]; rfl, rfl⟩
  · have h : (((s.size : Int) < 1 ∨ (16 : Int) < (s.size : Int)) ∨ (s.toList == [46]) = true) ∨ (s.toList == [46, 46]) = true := by assumption
    go_ret
    exact ⟨by rw [nm_out h]; rfl, rfl⟩
  · have h : (((1 : Int) ≤ (s.size : Int) ∧ (s.size : Int) ≤ 16) ∧ (s.toList == [46]) = false) ∧ (s.toList == [46, 46]) = false := by assumption
    exact absurd ⟨h.1.1.1, h.1.1.2, h.1.2, h.2⟩ HN.out
  · have h : (16 : Int) < (s.size : Int) := by assumption
    go_ret
    exact ⟨by rw [nm_long h]; rfl, rfl⟩
  · have h : (s.size : Int) < 1 := by assumption
    go_ret
    exact ⟨by rw [nm_out (.inl (.inl (.inl h)))]; rfl, rfl⟩
end Go.Proofs.YthelfbdkbldhjaaGreatDoor
