/-
  tree: the document's made (written by mkrefmade.py).
-/
import Derived.Test.YtmbomdhhiioigaaGreatDoorTRefSt
import Derived.Test.YtmbomdhhiioigaaGreatDoorTPlayQ
import Derived.Test.YtmbomdhhiioigaaGreatDoorRefCounted
namespace Go.Proofs.YtmbomdhhiioigaaGreatDoor
open Go.RowKit Go.Maps Go.WideShapes
set_option linter.unusedVariables false
set_option linter.unusedSimpArgs false
attribute [local go_sem ↓] Go.wp_at_zero Go.wp_at_succ

/-- Changes, readable in memory. -/
def ChsAt (w : World) (a : Option Addr) (l : List ChT) : Prop := ∀ i x, l[i]? = some x → ∃ b f, a = some ⟨b, f, none⟩ ∧ b < w.heap.size ∧ (∃ cur, w.heap[b]? = some (.cells cur 80 (0, 0))) ∧ ∀ j v, x.cells[j]? = some v → w.cell? ⟨b, f + i * 4 + j, none⟩ = some v
theorem ChsAt.below {w w' : World} {a : Option Addr} {l : List ChT} (h : ChsAt w a l) (hb : Below w.heap.size w w') : ChsAt w' a l := fun i x hx => by
  obtain ⟨b, f, ha, hlt, ⟨cur, hk⟩, hc⟩ := h i x hx
  exact ⟨b, f, ha, Nat.lt_of_lt_of_le hlt hb.size, ⟨cur, by rw [hb.block b hlt]; exact hk⟩, fun j v hv => by rw [hb.cell (p := ⟨b, f + i * 4 + j, none⟩) hlt]; exact hc j v hv⟩
theorem ChsAt.nil {w : World} {a : Option Addr} : ChsAt w a [] := fun i x hx => by simp at hx
/-- What one op of the document's leaves: the nodes, the result, the changes, the code. -/
def OneE (w : World) (r : Int × List Nd × ResT × List ChT) (e : Ending) (w' : World) : Prop :=
  ∃ a c ka kc ca cc, e = .returned (.tuple #[.slice a r.2.1.length c, resV r.2.2.1.p r.2.2.1.d r.2.2.1.v r.2.2.1.m r.2.2.1.c r.2.2.1.o (.slice ka r.2.2.1.kids.length kc), .slice ca r.2.2.2.length cc, .int .i64 r.1]) ∧ NdsAt w' a r.2.1 ∧ w'.ownsRow 0 9 1 (.slice ka r.2.2.1.kids.length kc) r.2.2.1.kids.length (r.2.2.1.kids.map Value.string) ∧ ChsAt w' ca r.2.2.2 ∧ Below w.heap.size w w'
theorem OneE.err {w w' : World} {T : List Nd} {a : Option Addr} {N : Nat} (hN : T.length = N) (c : Nat) (code : Int) (h : NdsAt w a T) (hb : Below w.heap.size w w') :
    OneE w (code, T, zr, []) (.returned (.tuple #[.slice a N c, noRes, .slice none 0 0, .int .i64 code])) w' :=
  ⟨a, c, none, 0, none, 0, by rw [hN]; rfl, h.below hb, World.ownsRow_nil _ _ _ _, ChsAt.nil, hb⟩
theorem nds_set {w : World} {base g n cap : Nat} {M : List Nd} (h : w.ownsRow base 69 7 (.slice (some ⟨g, 0, none⟩) n cap) n (M.flatMap Nd.cs)) {q : Nat} {u : Nd} (hq : M[q]? = some u) (k : Int) :
    NdsAt (w.setCell ⟨g, q * 7 + 6, none⟩ (.int .i64 k)) (some ⟨g, 0, none⟩) (M.set q { u with k := k }) := fun i x hx => by
  have hlt := (h.lt g rfl).2
  have h' := Fa.owns_set h (k := q * 7 + 6) (.int .i64 k)
  refine ⟨g, 0, rfl, (h'.lt g rfl).2, owns_kind h' rfl, fun j v hv => ?_⟩
  rw [Nat.zero_add]
  refine Fa.cell_n h' ?_
  have hj : j < 7 := by have := (List.getElem?_eq_some_iff.1 hv).1; simpa [Nd.cs] using this
  have hql : q < M.length := (List.getElem?_eq_some_iff.1 hq).1
  by_cases hi : i = q
  · subst hi
    rw [List.getElem?_set_self (by simpa using hql)] at hx
    obtain rfl : { u with k := k } = x := by simpa using hx
    have hl6 : i * 7 + 6 < (M.flatMap Nd.cs).length := (List.getElem?_eq_some_iff.1 (Fa.flat_at (cells := Nd.cs) (fun _ => rfl) hq (show u.cs[6]? = some (.int .i64 u.k) from rfl))).1
    by_cases hj6 : j = 6
    · subst hj6
      rw [List.getElem?_set_self hl6]
      exact hv
    · rw [List.getElem?_set_ne (by omega)]
      refine Fa.flat_at (cells := Nd.cs) (fun _ => rfl) hq ?_
      rcases (show j = 0 ∨ j = 1 ∨ j = 2 ∨ j = 3 ∨ j = 4 ∨ j = 5 by omega) with rfl | rfl | rfl | rfl | rfl | rfl <;> exact hv
  · rw [List.getElem?_set_ne (Ne.symm hi)] at hx
    rw [List.getElem?_set_ne (by omega)]
    exact Fa.flat_at (cells := Nd.cs) (fun _ => rfl) hx hv
theorem cellA {w : World} {o : Obj} {b i : Nat} (h : b < w.heap.size) : (w.alloc o).cell? ⟨b, i, none⟩ = w.cell? ⟨b, i, none⟩ := World.cell?_of_block (Below.heap_alloc w o b h)
theorem nds_put7 {w : World} {g zb : Nat} {M : List Nd} {x0 x1 x2 x3 x4 x5 x6 : Value} (h : NdsAt w (some ⟨g, 0, none⟩) M) (hne : g ≠ zb) : NdsAt (put_7 w zb x0 x1 x2 x3 x4 x5 x6) (some ⟨g, 0, none⟩) M := fun i x hx => by
  obtain ⟨b, f, ha, hlt, ⟨cur, hk⟩, hc⟩ := h i x hx
  obtain ⟨rfl, rfl⟩ : g = b ∧ 0 = f := by simpa using ha
  exact ⟨g, 0, rfl, by simpa [put_7] using hlt, ⟨cur, fillO_7 hk hne⟩, fun j v hv => cellO_7 (hc j v hv) hne⟩
theorem new_at {w : World} {b : Nat} (h : b = w.heap.size) (o : Obj) : (w.alloc o).heap[b]? = some o := by rw [h]; exact heap_alloc_new w o
theorem OneE.made {w w' : World} {M : List Nd} {a : Option Addr} {N cb : Nat} {at' d : ByteArray} {st own : Int} (hN : M.length = N) (c : Nat) (h : NdsAt w' a M) (hC : w'.heap[cb]? = some (.cells #[.int .i64 1, .string at', .string d, .int .i64 0] 80 (0, 0))) (hb : Below w.heap.size w w') :
    OneE w (0, M, ⟨at', ⟨#[]⟩, 0, st, st, own, []⟩, [⟨1, at', d, 0⟩]) (.returned (.tuple #[.slice a N c, resV at' ⟨#[]⟩ 0 st st own (.slice none 0 0), .slice (some ⟨cb, 0, none⟩) 1 1, .int .i64 0])) w' := by
  refine ⟨a, c, none, 0, some ⟨cb, 0, none⟩, 1, by rw [hN]; rfl, h, World.ownsRow_nil _ _ _ _, fun i x hx => ?_, hb⟩
  obtain ⟨rfl, rfl⟩ : i = 0 ∧ x = ⟨1, at', d, 0⟩ := by
    cases i with
    | zero => exact ⟨rfl, by simpa using hx.symm⟩
    | succ i => simp at hx
  obtain ⟨c0, c1, c2, c3⟩ := cells_4 hC
  refine ⟨cb, 0, rfl, (Array.getElem?_eq_some_iff.1 hC).1, ⟨_, hC⟩, fun j v hv => ?_⟩
  have hj : j < 4 := by have := (List.getElem?_eq_some_iff.1 hv).1; simpa using this
  rcases (show j = 0 ∨ j = 1 ∨ j = 2 ∨ j = 3 by omega) with rfl | rfl | rfl | rfl
  · obtain rfl : Value.int .i64 1 = v := by simpa using hv
    exact c0
  · obtain rfl : Value.string at' = v := by simpa using hv
    exact c1
  · obtain rfl : Value.string d = v := by simpa using hv
    exact c2
  · obtain rfl : Value.int .i64 0 = v := by simpa using hv
    exact c3
theorem free_blk {W : World} {b : Nat} {t : TypeId} {cs : Array Value} (h : W.heap[b]? = some (.cells cs t (0, 0))) (o : Nat) : W.frozen? ⟨b, o, none⟩ = false := by
  simp [World.frozen?, h]
theorem results_4c {P : Program} {fn : Func} {p s1 s2 s3 : Tmp} {ty : TypeId} (h : fn.results = #[.tmp s1, .cell p ty, .tmp s2, .tmp s3]) (tmps : Array Value) (w : World) (g : Nat) (t : TypeId) (cs : Array Value) (fr : Nat × Nat) (d : TypeDesc) (v1 v2 v3 : Value)
    (h1 : tmps.getD s1 undef = v1) (hp : tmps.getD p undef = .pointer (some ⟨g, 0, none⟩)) (h2 : tmps.getD s2 undef = v2) (h3 : tmps.getD s3 undef = v3) (hg : w.heap[g]? = some (.cells cs t fr))
    (hu : P.underlying ty = some d) (hd : (match d with | .struct _ | .array _ _ => true | _ => false) = true) (hi : (P.info? ty).map (·.size) = some cs.size) :
    (results fn tmps).run P w = .ok (.tuple #[v1, .agg cs, v2, v3]) w := by
  have hp' : tmps[p]?.getD undef = .pointer (some ⟨g, 0, none⟩) := by simpa using hp
  subst h1 h2 h3
  simp [results, h, hp', asAddr, run_loadVar_row w g t ty cs fr d hg hu hd hi]
set_option maxHeartbeats 8000000 in
set_option maxRecDepth 100000 in
theorem rm_A (a : Option Addr) (c : Nat) (T : List Nd) (s st : Int) (p d : ByteArray) (v : Int) (f : Int) (w : World) (h : NdsAt w a T) (hT : T.length ≤ 64) (hu : fndI T (parB p) = -1) :
    Calls Tryz.prog 47 #[.slice a T.length c, .int .i64 s, .int .i64 st, opV 1 p d v f] w (OneE w (40, T, zr, [])) := by
  have H : Hid (NdsAt w a T) := h
  have HP : Hid (∀ W, _) := fun W => refParent_any p W
  have HF : Hid (∀ W, Below w.heap.size w W → ∀ x, Calls Tryz.prog 33 #[.slice a T.length c, .string x] W fun e w' => e = .returned (.int .i64 (fndI T x)) ∧ w' = W) := fun W hb x => refFind_any a c T x W (h.below hb) (by omega)
  obtain ⟨N, hN⟩ : ∃ N, T.length = N := ⟨_, rfl⟩
  have HN : Hid (T.length = N) := hN
  rw [hN] at HF hT ⊢
  obtain ⟨ab, hab⟩ : ∃ ab, parB p = ab := ⟨_, rfl⟩
  rw [hab] at HP  hu
  have HU : Hid (fndI T ab = -1) := hu
  clear h hN hab hu
  go_enter Tryz.func47, Tryz.ntmps47
  go_upto_region 1 with fail
  obtain ⟨W2, hW2⟩ : ∃ x, (w.alloc (.cells #[.int .i64 1, .string p, .string d, .int .i64 v, .int .i64 (f)] 83)).alloc (.cells #[.string ⟨#[]⟩, .string ⟨#[]⟩, .int .i64 0, .int .i64 0, .int .i64 0, .int .i64 0, .slice none 0 0] 77) = x := ⟨_, rfl⟩
  obtain ⟨ob, hob⟩ : ∃ x, w.heap.size = x := ⟨_, rfl⟩
  have HOB : Hid (w.heap.size = ob) := hob
  have HB2 : Hid (Below w.heap.size w W2) := by rw [← hW2]; exact ((Below.refl _ _).alloc (Nat.le_refl _) _).alloc (by simp) _
  have HO2 : Hid (W2.heap[ob]? = some (.cells #[.int .i64 1, .string p, .string d, .int .i64 v, .int .i64 (f)] 83 (0, 0))) := by rw [← hW2, ← hob]; exact heap_alloc2_old _ _ _
  have HZ2 : Hid (W2.heap[ob + 1]? = some (.cells #[.string ⟨#[]⟩, .string ⟨#[]⟩, .int .i64 0, .int .i64 0, .int .i64 0, .int .i64 0, .slice none 0 0] 77 (0, 0))) := by rw [← hW2, ← hob]; exact heap_alloc2_new _ _ _
  rw [hW2, hob]
  clear hW2 hob
  obtain ⟨o0, o1, o2, o3, o4⟩ := cells_5 HO2.out
  go_wp2_with (go_at_call 59; refine Calls.mono (HP.out _) ?_; rintro e w3 ⟨rfl, hb3⟩
               have HB3 : Hid (Below w.heap.size w w3) := trans2 HB2.out hb3
               have HO3 : Hid _ := kept_block hb3 HO2.out
               have HZ3 : Hid _ := kept_block hb3 HZ2.out
               have hz3 : ob + 1 < w3.heap.size := (Array.getElem?_eq_some_iff.1 HZ3.out).1
               clear hb3 o0 o1 o2 o3 o4
               obtain ⟨o0, o1, o2, o3, o4⟩ := cells_5 HO3.out
               obtain ⟨b0, b1, b2, b3, b4, b5, b6⟩ := cells_7 HZ3.out
               have hfz := free_7 HZ3.out)
  refine Calls.mono (HF.out _ HB3.out _) ?_
  rintro e w4 ⟨rfl, hw4⟩
  subst hw4
  rw [HU.out]
  go_wp2_with fail
  exact bodyPost_ret (results_4c rfl _ _ (ob + 1) 77 #[.string ⟨#[]⟩, .string ⟨#[]⟩, .int .i64 0, .int .i64 0, .int .i64 0, .int .i64 0, .slice none 0 0] (0, 0) _ (.slice a N c) (.slice none 0 0) (.int .i64 40) rfl rfl rfl rfl (fill_7 HZ3.out) Tryz.underlying77 rfl (by kernel_rfl)) rfl (OneE.err HN.out c 40 H.out (fillB_7 HB3.out (by rw [HOB.out]; omega)))
set_option maxHeartbeats 8000000 in
set_option maxRecDepth 100000 in
theorem rm_B (a : Option Addr) (c : Nat) (T : List Nd) (s st : Int) (p d : ByteArray) (v : Int) (f : Int) (u : Nd) (q : Nat) (w : World) (h : NdsAt w a T) (hT : T.length ≤ 64) (hq : T[q]? = some u) (hu : fndI T (parB p) = q) (ho : u.o ≠ 0) :
    Calls Tryz.prog 47 #[.slice a T.length c, .int .i64 s, .int .i64 st, opV 1 p d v f] w (OneE w (44, T, zr, [])) := by
  have ho1 : (u.o != 0) = true := by simpa using ho
  clear ho
  have H : Hid (NdsAt w a T) := h
  have HP : Hid (∀ W, _) := fun W => refParent_any p W
  have HF : Hid (∀ W, Below w.heap.size w W → ∀ x, Calls Tryz.prog 33 #[.slice a T.length c, .string x] W fun e w' => e = .returned (.int .i64 (fndI T x)) ∧ w' = W) := fun W hb x => refFind_any a c T x W (h.below hb) (by omega)
  obtain ⟨N, hN⟩ : ∃ N, T.length = N := ⟨_, rfl⟩
  have HN : Hid (T.length = N) := hN
  rw [hN] at HF hT ⊢
  obtain ⟨ab, hab⟩ : ∃ ab, parB p = ab := ⟨_, rfl⟩
  rw [hab] at HP  hu
  have HU : Hid (fndI T ab = (q : Int)) := hu
  have HQ : Hid (T[q]? = some u) := hq
  have hqN : q < N := by rw [← hN]; exact (List.getElem?_eq_some_iff.1 hq).1
  obtain ⟨gb, gf, rfl⟩ := h.some hq
  clear hq
  clear h hN hab hu
  go_enter Tryz.func47, Tryz.ntmps47
  go_upto_region 1 with fail
  obtain ⟨W2, hW2⟩ : ∃ x, (w.alloc (.cells #[.int .i64 1, .string p, .string d, .int .i64 v, .int .i64 (f)] 83)).alloc (.cells #[.string ⟨#[]⟩, .string ⟨#[]⟩, .int .i64 0, .int .i64 0, .int .i64 0, .int .i64 0, .slice none 0 0] 77) = x := ⟨_, rfl⟩
  obtain ⟨ob, hob⟩ : ∃ x, w.heap.size = x := ⟨_, rfl⟩
  have HOB : Hid (w.heap.size = ob) := hob
  have HB2 : Hid (Below w.heap.size w W2) := by rw [← hW2]; exact ((Below.refl _ _).alloc (Nat.le_refl _) _).alloc (by simp) _
  have HO2 : Hid (W2.heap[ob]? = some (.cells #[.int .i64 1, .string p, .string d, .int .i64 v, .int .i64 (f)] 83 (0, 0))) := by rw [← hW2, ← hob]; exact heap_alloc2_old _ _ _
  have HZ2 : Hid (W2.heap[ob + 1]? = some (.cells #[.string ⟨#[]⟩, .string ⟨#[]⟩, .int .i64 0, .int .i64 0, .int .i64 0, .int .i64 0, .slice none 0 0] 77 (0, 0))) := by rw [← hW2, ← hob]; exact heap_alloc2_new _ _ _
  rw [hW2, hob]
  clear hW2 hob
  obtain ⟨o0, o1, o2, o3, o4⟩ := cells_5 HO2.out
  go_wp2_with (go_at_call 59; refine Calls.mono (HP.out _) ?_; rintro e w3 ⟨rfl, hb3⟩
               have HB3 : Hid (Below w.heap.size w w3) := trans2 HB2.out hb3
               have HO3 : Hid _ := kept_block hb3 HO2.out
               have HZ3 : Hid _ := kept_block hb3 HZ2.out
               have hz3 : ob + 1 < w3.heap.size := (Array.getElem?_eq_some_iff.1 HZ3.out).1
               clear hb3 o0 o1 o2 o3 o4
               obtain ⟨o0, o1, o2, o3, o4⟩ := cells_5 HO3.out
               obtain ⟨b0, b1, b2, b3, b4, b5, b6⟩ := cells_7 HZ3.out
               have hfz := free_7 HZ3.out)
  refine Calls.mono (HF.out _ HB3.out _) ?_
  rintro e w4 ⟨rfl, hw4⟩
  subst hw4
  rw [HU.out]
  obtain ⟨hgb, x0, x1, x2, x3, x4, x5, x6⟩ := (H.out.below HB3.out).cells HQ.out
  have hq0 : ¬ (q : Int) < 0 := by omega
  go_wp2_with fail
  exact bodyPost_ret (results_4c rfl _ _ (ob + 1) 77 #[.string ⟨#[]⟩, .string ⟨#[]⟩, .int .i64 0, .int .i64 0, .int .i64 0, .int .i64 0, .slice none 0 0] (0, 0) _ (.slice (some ⟨gb, gf, none⟩) N c) (.slice none 0 0) (.int .i64 44) rfl rfl rfl rfl (fill_7 HZ3.out) Tryz.underlying77 rfl (by kernel_rfl)) rfl (OneE.err HN.out c 44 H.out (fillB_7 HB3.out (by rw [HOB.out]; omega)))
set_option maxHeartbeats 8000000 in
set_option maxRecDepth 100000 in
theorem rm_C (a : Option Addr) (c : Nat) (T : List Nd) (s st : Int) (p d : ByteArray) (v : Int) (f : Int) (u : Nd) (q : Nat) (w : World) (h : NdsAt w a T) (hT : T.length ≤ 64) (hq : T[q]? = some u) (hu : fndI T (parB p) = q) (ho : u.o = 0) (hf : 2 ≤ f) (hk : 99999 < u.k) :
    Calls Tryz.prog 47 #[.slice a T.length c, .int .i64 s, .int .i64 st, opV 1 p d v f] w (OneE w (46, T, zr, [])) := by
  have ho1 : (u.o != 0) = false := by simpa using ho
  clear ho
  have H : Hid (NdsAt w a T) := h
  have HP : Hid (∀ W, _) := fun W => refParent_any p W
  have HF : Hid (∀ W, Below w.heap.size w W → ∀ x, Calls Tryz.prog 33 #[.slice a T.length c, .string x] W fun e w' => e = .returned (.int .i64 (fndI T x)) ∧ w' = W) := fun W hb x => refFind_any a c T x W (h.below hb) (by omega)
  obtain ⟨N, hN⟩ : ∃ N, T.length = N := ⟨_, rfl⟩
  have HN : Hid (T.length = N) := hN
  rw [hN] at HF hT ⊢
  obtain ⟨ab, hab⟩ : ∃ ab, parB p = ab := ⟨_, rfl⟩
  rw [hab] at HP  hu
  have HU : Hid (fndI T ab = (q : Int)) := hu
  have HQ : Hid (T[q]? = some u) := hq
  have hqN : q < N := by rw [← hN]; exact (List.getElem?_eq_some_iff.1 hq).1
  obtain ⟨gb, gf, rfl⟩ := h.some hq
  clear hq
  clear h hN hab hu
  go_enter Tryz.func47, Tryz.ntmps47
  go_upto_region 1 with fail
  obtain ⟨W2, hW2⟩ : ∃ x, (w.alloc (.cells #[.int .i64 1, .string p, .string d, .int .i64 v, .int .i64 (f)] 83)).alloc (.cells #[.string ⟨#[]⟩, .string ⟨#[]⟩, .int .i64 0, .int .i64 0, .int .i64 0, .int .i64 0, .slice none 0 0] 77) = x := ⟨_, rfl⟩
  obtain ⟨ob, hob⟩ : ∃ x, w.heap.size = x := ⟨_, rfl⟩
  have HOB : Hid (w.heap.size = ob) := hob
  have HB2 : Hid (Below w.heap.size w W2) := by rw [← hW2]; exact ((Below.refl _ _).alloc (Nat.le_refl _) _).alloc (by simp) _
  have HO2 : Hid (W2.heap[ob]? = some (.cells #[.int .i64 1, .string p, .string d, .int .i64 v, .int .i64 (f)] 83 (0, 0))) := by rw [← hW2, ← hob]; exact heap_alloc2_old _ _ _
  have HZ2 : Hid (W2.heap[ob + 1]? = some (.cells #[.string ⟨#[]⟩, .string ⟨#[]⟩, .int .i64 0, .int .i64 0, .int .i64 0, .int .i64 0, .slice none 0 0] 77 (0, 0))) := by rw [← hW2, ← hob]; exact heap_alloc2_new _ _ _
  rw [hW2, hob]
  clear hW2 hob
  obtain ⟨o0, o1, o2, o3, o4⟩ := cells_5 HO2.out
  go_wp2_with (go_at_call 59; refine Calls.mono (HP.out _) ?_; rintro e w3 ⟨rfl, hb3⟩
               have HB3 : Hid (Below w.heap.size w w3) := trans2 HB2.out hb3
               have HO3 : Hid _ := kept_block hb3 HO2.out
               have HZ3 : Hid _ := kept_block hb3 HZ2.out
               have hz3 : ob + 1 < w3.heap.size := (Array.getElem?_eq_some_iff.1 HZ3.out).1
               clear hb3 o0 o1 o2 o3 o4
               obtain ⟨o0, o1, o2, o3, o4⟩ := cells_5 HO3.out
               obtain ⟨b0, b1, b2, b3, b4, b5, b6⟩ := cells_7 HZ3.out
               have hfz := free_7 HZ3.out)
  refine Calls.mono (HF.out _ HB3.out _) ?_
  rintro e w4 ⟨rfl, hw4⟩
  subst hw4
  rw [HU.out]
  obtain ⟨hgb, x0, x1, x2, x3, x4, x5, x6⟩ := (H.out.below HB3.out).cells HQ.out
  have hq0 : ¬ (q : Int) < 0 := by omega
  go_upto_region 8 with fail
  obtain ⟨w5, hw5⟩ : ∃ x, w4.alloc (.cells #[.string p, .string d, .int .i64 0, .int .i64 st, .int .i64 st, .int .i64 0, .int .i64 0] 69) = x := ⟨_, rfl⟩
  obtain ⟨nb, hnb⟩ : ∃ x, w4.heap.size = x := ⟨_, rfl⟩
  have hnz : ob + 1 < nb := by omega
  have HB5 : Hid (Below w.heap.size w w5) := by rw [← hw5]; exact HB3.out.alloc (by have := HB3.out.size; omega) _
  have HO5 : Hid (w5.heap[ob]? = some (.cells #[.int .i64 1, .string p, .string d, .int .i64 v, .int .i64 (f)] 83 (0, 0))) := by rw [← hw5]; exact new_old HO3.out _
  have HZ5 : Hid (w5.heap[ob + 1]? = some (.cells #[.string ⟨#[]⟩, .string ⟨#[]⟩, .int .i64 0, .int .i64 0, .int .i64 0, .int .i64 0, .slice none 0 0] 77 (0, 0))) := by rw [← hw5]; exact new_old HZ3.out _
  have HN5 : Hid (w5.heap[nb]? = some (.cells #[.string p, .string d, .int .i64 0, .int .i64 st, .int .i64 st, .int .i64 0, .int .i64 0] 69 (0, 0))) := by rw [← hw5, ← hnb]; exact heap_alloc_new _ _
  rw [hw5, hnb]
  clear hw5 hnb hz3 o0 o1 o2 o3 o4 b0 b1 b2 b3 b4 b5 b6 hfz x0 x1 x2 x3 x4 x5 x6 hgb ho1
  obtain ⟨o0, o1, o2, o3, o4⟩ := cells_5 HO5.out
  obtain ⟨b0, b1, b2, b3, b4, b5, b6⟩ := cells_7 HZ5.out
  have hfz := free_7 HZ5.out
  obtain ⟨hgb, x0, x1, x2, x3, x4, x5, x6⟩ := (H.out.below HB5.out).cells HQ.out
  go_wp2_with fail
  exact bodyPost_ret (results_4c rfl _ _ (ob + 1) 77 #[.string ⟨#[]⟩, .string ⟨#[]⟩, .int .i64 0, .int .i64 0, .int .i64 0, .int .i64 0, .slice none 0 0] (0, 0) _ (.slice (some ⟨gb, gf, none⟩) N c) (.slice none 0 0) (.int .i64 46) rfl rfl rfl rfl (fill_7 HZ5.out) Tryz.underlying77 rfl (by kernel_rfl)) rfl (OneE.err HN.out c 46 H.out (fillB_7 HB5.out (by rw [HOB.out]; omega)))
set_option maxHeartbeats 8000000 in
set_option maxRecDepth 100000 in
theorem rm_Dl (a : Option Addr) (c : Nat) (T : List Nd) (s st : Int) (p d : ByteArray) (v : Int) (f : Int) (u : Nd) (q : Nat) (w : World) (h : NdsAt w a T) (hT : T.length ≤ 64) (hq : T[q]? = some u) (hu : fndI T (parB p) = q) (ho : u.o = 0) (hf : ¬ 2 ≤ f) (g : Nat) (hg : fndI T p = g) :
    Calls Tryz.prog 47 #[.slice a T.length c, .int .i64 s, .int .i64 st, opV 1 p d v f] w (OneE w (41, T, zr, [])) := by
  have ho1 : (u.o != 0) = false := by simpa using ho
  clear ho
  have HG : Hid (fndI T p = (g : Int)) := hg
  clear hg
  have H : Hid (NdsAt w a T) := h
  have HP : Hid (∀ W, _) := fun W => refParent_any p W
  have HF : Hid (∀ W, Below w.heap.size w W → ∀ x, Calls Tryz.prog 33 #[.slice a T.length c, .string x] W fun e w' => e = .returned (.int .i64 (fndI T x)) ∧ w' = W) := fun W hb x => refFind_any a c T x W (h.below hb) (by omega)
  obtain ⟨N, hN⟩ : ∃ N, T.length = N := ⟨_, rfl⟩
  have HN : Hid (T.length = N) := hN
  rw [hN] at HF hT ⊢
  obtain ⟨ab, hab⟩ : ∃ ab, parB p = ab := ⟨_, rfl⟩
  rw [hab] at HP  hu
  have HU : Hid (fndI T ab = (q : Int)) := hu
  have HQ : Hid (T[q]? = some u) := hq
  have hqN : q < N := by rw [← hN]; exact (List.getElem?_eq_some_iff.1 hq).1
  obtain ⟨gb, gf, rfl⟩ := h.some hq
  clear hq
  clear h hN hab hu
  go_enter Tryz.func47, Tryz.ntmps47
  go_upto_region 1 with fail
  obtain ⟨W2, hW2⟩ : ∃ x, (w.alloc (.cells #[.int .i64 1, .string p, .string d, .int .i64 v, .int .i64 (f)] 83)).alloc (.cells #[.string ⟨#[]⟩, .string ⟨#[]⟩, .int .i64 0, .int .i64 0, .int .i64 0, .int .i64 0, .slice none 0 0] 77) = x := ⟨_, rfl⟩
  obtain ⟨ob, hob⟩ : ∃ x, w.heap.size = x := ⟨_, rfl⟩
  have HOB : Hid (w.heap.size = ob) := hob
  have HB2 : Hid (Below w.heap.size w W2) := by rw [← hW2]; exact ((Below.refl _ _).alloc (Nat.le_refl _) _).alloc (by simp) _
  have HO2 : Hid (W2.heap[ob]? = some (.cells #[.int .i64 1, .string p, .string d, .int .i64 v, .int .i64 (f)] 83 (0, 0))) := by rw [← hW2, ← hob]; exact heap_alloc2_old _ _ _
  have HZ2 : Hid (W2.heap[ob + 1]? = some (.cells #[.string ⟨#[]⟩, .string ⟨#[]⟩, .int .i64 0, .int .i64 0, .int .i64 0, .int .i64 0, .slice none 0 0] 77 (0, 0))) := by rw [← hW2, ← hob]; exact heap_alloc2_new _ _ _
  rw [hW2, hob]
  clear hW2 hob
  obtain ⟨o0, o1, o2, o3, o4⟩ := cells_5 HO2.out
  go_wp2_with (go_at_call 59; refine Calls.mono (HP.out _) ?_; rintro e w3 ⟨rfl, hb3⟩
               have HB3 : Hid (Below w.heap.size w w3) := trans2 HB2.out hb3
               have HO3 : Hid _ := kept_block hb3 HO2.out
               have HZ3 : Hid _ := kept_block hb3 HZ2.out
               have hz3 : ob + 1 < w3.heap.size := (Array.getElem?_eq_some_iff.1 HZ3.out).1
               clear hb3 o0 o1 o2 o3 o4
               obtain ⟨o0, o1, o2, o3, o4⟩ := cells_5 HO3.out
               obtain ⟨b0, b1, b2, b3, b4, b5, b6⟩ := cells_7 HZ3.out
               have hfz := free_7 HZ3.out)
  refine Calls.mono (HF.out _ HB3.out _) ?_
  rintro e w4 ⟨rfl, hw4⟩
  subst hw4
  rw [HU.out]
  obtain ⟨hgb, x0, x1, x2, x3, x4, x5, x6⟩ := (H.out.below HB3.out).cells HQ.out
  have hq0 : ¬ (q : Int) < 0 := by omega
  go_upto_region 8 with fail
  obtain ⟨w5, hw5⟩ : ∃ x, w4.alloc (.cells #[.string p, .string d, .int .i64 0, .int .i64 st, .int .i64 st, .int .i64 0, .int .i64 0] 69) = x := ⟨_, rfl⟩
  obtain ⟨nb, hnb⟩ : ∃ x, w4.heap.size = x := ⟨_, rfl⟩
  have hnz : ob + 1 < nb := by omega
  have HB5 : Hid (Below w.heap.size w w5) := by rw [← hw5]; exact HB3.out.alloc (by have := HB3.out.size; omega) _
  have HO5 : Hid (w5.heap[ob]? = some (.cells #[.int .i64 1, .string p, .string d, .int .i64 v, .int .i64 (f)] 83 (0, 0))) := by rw [← hw5]; exact new_old HO3.out _
  have HZ5 : Hid (w5.heap[ob + 1]? = some (.cells #[.string ⟨#[]⟩, .string ⟨#[]⟩, .int .i64 0, .int .i64 0, .int .i64 0, .int .i64 0, .slice none 0 0] 77 (0, 0))) := by rw [← hw5]; exact new_old HZ3.out _
  have HN5 : Hid (w5.heap[nb]? = some (.cells #[.string p, .string d, .int .i64 0, .int .i64 st, .int .i64 st, .int .i64 0, .int .i64 0] 69 (0, 0))) := by rw [← hw5, ← hnb]; exact heap_alloc_new _ _
  rw [hw5, hnb]
  clear hw5 hnb hz3 o0 o1 o2 o3 o4 b0 b1 b2 b3 b4 b5 b6 hfz x0 x1 x2 x3 x4 x5 x6 hgb ho1
  obtain ⟨o0, o1, o2, o3, o4⟩ := cells_5 HO5.out
  obtain ⟨b0, b1, b2, b3, b4, b5, b6⟩ := cells_7 HZ5.out
  have hfz := free_7 HZ5.out
  obtain ⟨hgb, x0, x1, x2, x3, x4, x5, x6⟩ := (H.out.below HB5.out).cells HQ.out
  go_upto_region 14 with fail
  obtain ⟨w7, hw7⟩ : ∃ x, w5 = x := ⟨_, rfl⟩
  rw [hw7]
  rw [hw7] at HB5 HO5 HZ5 HN5
  have HB7 : Hid (Below w.heap.size w w7) := HB5.out
  have HO7 : Hid (w7.heap[ob]? = some (.cells #[.int .i64 1, .string p, .string d, .int .i64 v, .int .i64 (f)] 83 (0, 0))) := HO5.out
  have HZ7 : Hid (w7.heap[ob + 1]? = some (.cells #[.string ⟨#[]⟩, .string ⟨#[]⟩, .int .i64 0, .int .i64 0, .int .i64 0, .int .i64 0, .slice none 0 0] 77 (0, 0))) := HZ5.out
  have HN7 : Hid (w7.heap[nb]? = some (.cells #[.string p, .string d, .int .i64 0, .int .i64 st, .int .i64 st, .int .i64 0, .int .i64 0] 69 (0, 0))) := HN5.out
  clear hw7 o0 o1 o2 o3 o4 b0 b1 b2 b3 b4 b5 b6 hfz x0 x1 x2 x3 x4 x5 x6 hgb
  obtain ⟨o0, o1, o2, o3, o4⟩ := cells_5 HO7.out
  obtain ⟨b0, b1, b2, b3, b4, b5, b6⟩ := cells_7 HZ7.out
  have hfz := free_7 HZ7.out
  obtain ⟨n0, n1, n2, n3, n4, n5, n6⟩ := cells_7 HN7.out
  have hfn := free_7 HN7.out
  go_wp2_with fail
  refine Calls.mono (HF.out _ HB7.out _) ?_
  rintro e w8 ⟨rfl, hw8⟩
  subst hw8
  rw [HG.out]
  have hg0 : (0 : Int) ≤ (g : Int) := by omega
  go_wp2_with fail
  exact bodyPost_ret (results_4c rfl _ _ (ob + 1) 77 #[.string ⟨#[]⟩, .string ⟨#[]⟩, .int .i64 0, .int .i64 0, .int .i64 0, .int .i64 0, .slice none 0 0] (0, 0) _ (.slice (some ⟨gb, gf, none⟩) N c) (.slice none 0 0) (.int .i64 41) rfl rfl rfl rfl (fill_7 HZ7.out) Tryz.underlying77 rfl (by kernel_rfl)) rfl (OneE.err HN.out c 41 H.out (fillB_7 HB7.out (by rw [HOB.out]; omega)))
set_option maxHeartbeats 8000000 in
set_option maxRecDepth 100000 in
theorem rm_El (a : Option Addr) (c : Nat) (T : List Nd) (s st : Int) (p d : ByteArray) (v : Int) (f : Int) (u : Nd) (q : Nat) (w : World) (h : NdsAt w a T) (hT : T.length ≤ 64) (hq : T[q]? = some u) (hu : fndI T (parB p) = q) (ho : u.o = 0) (hf : ¬ 2 ≤ f) (hg : fndI T p = -1) (hN6 : 64 ≤ T.length) :
    Calls Tryz.prog 47 #[.slice a T.length c, .int .i64 s, .int .i64 st, opV 1 p d v f] w (OneE w (46, T, zr, [])) := by
  have ho1 : (u.o != 0) = false := by simpa using ho
  clear ho
  have HG : Hid (fndI T p = -1) := hg
  clear hg
  have HNF : Hid (64 ≤ T.length) := hN6
  clear hN6
  have H : Hid (NdsAt w a T) := h
  have HP : Hid (∀ W, _) := fun W => refParent_any p W
  have HF : Hid (∀ W, Below w.heap.size w W → ∀ x, Calls Tryz.prog 33 #[.slice a T.length c, .string x] W fun e w' => e = .returned (.int .i64 (fndI T x)) ∧ w' = W) := fun W hb x => refFind_any a c T x W (h.below hb) (by omega)
  obtain ⟨N, hN⟩ : ∃ N, T.length = N := ⟨_, rfl⟩
  have HN : Hid (T.length = N) := hN
  rw [hN] at HF hT ⊢
  obtain ⟨ab, hab⟩ : ∃ ab, parB p = ab := ⟨_, rfl⟩
  rw [hab] at HP  hu
  have HU : Hid (fndI T ab = (q : Int)) := hu
  have HQ : Hid (T[q]? = some u) := hq
  have hqN : q < N := by rw [← hN]; exact (List.getElem?_eq_some_iff.1 hq).1
  obtain ⟨gb, gf, rfl⟩ := h.some hq
  clear hq
  clear h hN hab hu
  go_enter Tryz.func47, Tryz.ntmps47
  go_upto_region 1 with fail
  obtain ⟨W2, hW2⟩ : ∃ x, (w.alloc (.cells #[.int .i64 1, .string p, .string d, .int .i64 v, .int .i64 (f)] 83)).alloc (.cells #[.string ⟨#[]⟩, .string ⟨#[]⟩, .int .i64 0, .int .i64 0, .int .i64 0, .int .i64 0, .slice none 0 0] 77) = x := ⟨_, rfl⟩
  obtain ⟨ob, hob⟩ : ∃ x, w.heap.size = x := ⟨_, rfl⟩
  have HOB : Hid (w.heap.size = ob) := hob
  have HB2 : Hid (Below w.heap.size w W2) := by rw [← hW2]; exact ((Below.refl _ _).alloc (Nat.le_refl _) _).alloc (by simp) _
  have HO2 : Hid (W2.heap[ob]? = some (.cells #[.int .i64 1, .string p, .string d, .int .i64 v, .int .i64 (f)] 83 (0, 0))) := by rw [← hW2, ← hob]; exact heap_alloc2_old _ _ _
  have HZ2 : Hid (W2.heap[ob + 1]? = some (.cells #[.string ⟨#[]⟩, .string ⟨#[]⟩, .int .i64 0, .int .i64 0, .int .i64 0, .int .i64 0, .slice none 0 0] 77 (0, 0))) := by rw [← hW2, ← hob]; exact heap_alloc2_new _ _ _
  rw [hW2, hob]
  clear hW2 hob
  obtain ⟨o0, o1, o2, o3, o4⟩ := cells_5 HO2.out
  go_wp2_with (go_at_call 59; refine Calls.mono (HP.out _) ?_; rintro e w3 ⟨rfl, hb3⟩
               have HB3 : Hid (Below w.heap.size w w3) := trans2 HB2.out hb3
               have HO3 : Hid _ := kept_block hb3 HO2.out
               have HZ3 : Hid _ := kept_block hb3 HZ2.out
               have hz3 : ob + 1 < w3.heap.size := (Array.getElem?_eq_some_iff.1 HZ3.out).1
               clear hb3 o0 o1 o2 o3 o4
               obtain ⟨o0, o1, o2, o3, o4⟩ := cells_5 HO3.out
               obtain ⟨b0, b1, b2, b3, b4, b5, b6⟩ := cells_7 HZ3.out
               have hfz := free_7 HZ3.out)
  refine Calls.mono (HF.out _ HB3.out _) ?_
  rintro e w4 ⟨rfl, hw4⟩
  subst hw4
  rw [HU.out]
  obtain ⟨hgb, x0, x1, x2, x3, x4, x5, x6⟩ := (H.out.below HB3.out).cells HQ.out
  have hq0 : ¬ (q : Int) < 0 := by omega
  go_upto_region 8 with fail
  obtain ⟨w5, hw5⟩ : ∃ x, w4.alloc (.cells #[.string p, .string d, .int .i64 0, .int .i64 st, .int .i64 st, .int .i64 0, .int .i64 0] 69) = x := ⟨_, rfl⟩
  obtain ⟨nb, hnb⟩ : ∃ x, w4.heap.size = x := ⟨_, rfl⟩
  have hnz : ob + 1 < nb := by omega
  have HB5 : Hid (Below w.heap.size w w5) := by rw [← hw5]; exact HB3.out.alloc (by have := HB3.out.size; omega) _
  have HO5 : Hid (w5.heap[ob]? = some (.cells #[.int .i64 1, .string p, .string d, .int .i64 v, .int .i64 (f)] 83 (0, 0))) := by rw [← hw5]; exact new_old HO3.out _
  have HZ5 : Hid (w5.heap[ob + 1]? = some (.cells #[.string ⟨#[]⟩, .string ⟨#[]⟩, .int .i64 0, .int .i64 0, .int .i64 0, .int .i64 0, .slice none 0 0] 77 (0, 0))) := by rw [← hw5]; exact new_old HZ3.out _
  have HN5 : Hid (w5.heap[nb]? = some (.cells #[.string p, .string d, .int .i64 0, .int .i64 st, .int .i64 st, .int .i64 0, .int .i64 0] 69 (0, 0))) := by rw [← hw5, ← hnb]; exact heap_alloc_new _ _
  rw [hw5, hnb]
  clear hw5 hnb hz3 o0 o1 o2 o3 o4 b0 b1 b2 b3 b4 b5 b6 hfz x0 x1 x2 x3 x4 x5 x6 hgb ho1
  obtain ⟨o0, o1, o2, o3, o4⟩ := cells_5 HO5.out
  obtain ⟨b0, b1, b2, b3, b4, b5, b6⟩ := cells_7 HZ5.out
  have hfz := free_7 HZ5.out
  obtain ⟨hgb, x0, x1, x2, x3, x4, x5, x6⟩ := (H.out.below HB5.out).cells HQ.out
  go_upto_region 14 with fail
  obtain ⟨w7, hw7⟩ : ∃ x, w5 = x := ⟨_, rfl⟩
  rw [hw7]
  rw [hw7] at HB5 HO5 HZ5 HN5
  have HB7 : Hid (Below w.heap.size w w7) := HB5.out
  have HO7 : Hid (w7.heap[ob]? = some (.cells #[.int .i64 1, .string p, .string d, .int .i64 v, .int .i64 (f)] 83 (0, 0))) := HO5.out
  have HZ7 : Hid (w7.heap[ob + 1]? = some (.cells #[.string ⟨#[]⟩, .string ⟨#[]⟩, .int .i64 0, .int .i64 0, .int .i64 0, .int .i64 0, .slice none 0 0] 77 (0, 0))) := HZ5.out
  have HN7 : Hid (w7.heap[nb]? = some (.cells #[.string p, .string d, .int .i64 0, .int .i64 st, .int .i64 st, .int .i64 0, .int .i64 0] 69 (0, 0))) := HN5.out
  clear hw7 o0 o1 o2 o3 o4 b0 b1 b2 b3 b4 b5 b6 hfz x0 x1 x2 x3 x4 x5 x6 hgb
  obtain ⟨o0, o1, o2, o3, o4⟩ := cells_5 HO7.out
  obtain ⟨b0, b1, b2, b3, b4, b5, b6⟩ := cells_7 HZ7.out
  have hfz := free_7 HZ7.out
  obtain ⟨n0, n1, n2, n3, n4, n5, n6⟩ := cells_7 HN7.out
  have hfn := free_7 HN7.out
  go_wp2_with fail
  refine Calls.mono (HF.out _ HB7.out _) ?_
  rintro e w8 ⟨rfl, hw8⟩
  subst hw8
  rw [HG.out]
  have hN64 : (64 : Int) ≤ (N : Int) := by have := HNF.out; rw [HN.out] at this; omega
  go_wp2_with fail
  exact bodyPost_ret (results_4c rfl _ _ (ob + 1) 77 #[.string ⟨#[]⟩, .string ⟨#[]⟩, .int .i64 0, .int .i64 0, .int .i64 0, .int .i64 0, .slice none 0 0] (0, 0) _ (.slice (some ⟨gb, gf, none⟩) N c) (.slice none 0 0) (.int .i64 46) rfl rfl rfl rfl (fill_7 HZ7.out) Tryz.underlying77 rfl (by kernel_rfl)) rfl (OneE.err HN.out c 46 H.out (fillB_7 HB7.out (by rw [HOB.out]; omega)))
set_option maxHeartbeats 8000000 in
set_option maxRecDepth 100000 in
theorem rm_Dh (a : Option Addr) (c : Nat) (T : List Nd) (s st : Int) (p d : ByteArray) (v : Int) (f : Int) (u : Nd) (q : Nat) (w : World) (h : NdsAt w a T) (hT : T.length ≤ 64) (hq : T[q]? = some u) (hu : fndI T (parB p) = q) (ho : u.o = 0) (hf : 2 ≤ f) (at' : ByteArray) (hk : u.k ≤ 99999) (hk0 : 0 ≤ u.k) (hc : ∀ W, Calls Tryz.prog 73 #[.string p, .int .i64 u.k] W fun e w' => e = .returned (.tuple #[.string at', .int .i64 0]) ∧ Below W.heap.size W w') (g : Nat) (hg : fndI T at' = g) :
    Calls Tryz.prog 47 #[.slice a T.length c, .int .i64 s, .int .i64 st, opV 1 p d v f] w (OneE w (41, T, zr, [])) := by
  have ho1 : (u.o != 0) = false := by simpa using ho
  clear ho
  have hk2 : ¬ 99999 < u.k := by omega
  have HC : Hid (∀ W, Calls Tryz.prog 73 #[.string p, .int .i64 u.k] W fun e w' => e = .returned (.tuple #[.string at', .int .i64 0]) ∧ Below W.heap.size W w') := hc
  clear hc
  have HG : Hid (fndI T at' = (g : Int)) := hg
  clear hg
  have H : Hid (NdsAt w a T) := h
  have HP : Hid (∀ W, _) := fun W => refParent_any p W
  have HF : Hid (∀ W, Below w.heap.size w W → ∀ x, Calls Tryz.prog 33 #[.slice a T.length c, .string x] W fun e w' => e = .returned (.int .i64 (fndI T x)) ∧ w' = W) := fun W hb x => refFind_any a c T x W (h.below hb) (by omega)
  obtain ⟨N, hN⟩ : ∃ N, T.length = N := ⟨_, rfl⟩
  have HN : Hid (T.length = N) := hN
  rw [hN] at HF hT ⊢
  obtain ⟨ab, hab⟩ : ∃ ab, parB p = ab := ⟨_, rfl⟩
  rw [hab] at HP  hu
  have HU : Hid (fndI T ab = (q : Int)) := hu
  have HQ : Hid (T[q]? = some u) := hq
  have hqN : q < N := by rw [← hN]; exact (List.getElem?_eq_some_iff.1 hq).1
  obtain ⟨gb, gf, rfl⟩ := h.some hq
  clear hq
  clear h hN hab hu
  go_enter Tryz.func47, Tryz.ntmps47
  go_upto_region 1 with fail
  obtain ⟨W2, hW2⟩ : ∃ x, (w.alloc (.cells #[.int .i64 1, .string p, .string d, .int .i64 v, .int .i64 (f)] 83)).alloc (.cells #[.string ⟨#[]⟩, .string ⟨#[]⟩, .int .i64 0, .int .i64 0, .int .i64 0, .int .i64 0, .slice none 0 0] 77) = x := ⟨_, rfl⟩
  obtain ⟨ob, hob⟩ : ∃ x, w.heap.size = x := ⟨_, rfl⟩
  have HOB : Hid (w.heap.size = ob) := hob
  have HB2 : Hid (Below w.heap.size w W2) := by rw [← hW2]; exact ((Below.refl _ _).alloc (Nat.le_refl _) _).alloc (by simp) _
  have HO2 : Hid (W2.heap[ob]? = some (.cells #[.int .i64 1, .string p, .string d, .int .i64 v, .int .i64 (f)] 83 (0, 0))) := by rw [← hW2, ← hob]; exact heap_alloc2_old _ _ _
  have HZ2 : Hid (W2.heap[ob + 1]? = some (.cells #[.string ⟨#[]⟩, .string ⟨#[]⟩, .int .i64 0, .int .i64 0, .int .i64 0, .int .i64 0, .slice none 0 0] 77 (0, 0))) := by rw [← hW2, ← hob]; exact heap_alloc2_new _ _ _
  rw [hW2, hob]
  clear hW2 hob
  obtain ⟨o0, o1, o2, o3, o4⟩ := cells_5 HO2.out
  go_wp2_with (go_at_call 59; refine Calls.mono (HP.out _) ?_; rintro e w3 ⟨rfl, hb3⟩
               have HB3 : Hid (Below w.heap.size w w3) := trans2 HB2.out hb3
               have HO3 : Hid _ := kept_block hb3 HO2.out
               have HZ3 : Hid _ := kept_block hb3 HZ2.out
               have hz3 : ob + 1 < w3.heap.size := (Array.getElem?_eq_some_iff.1 HZ3.out).1
               clear hb3 o0 o1 o2 o3 o4
               obtain ⟨o0, o1, o2, o3, o4⟩ := cells_5 HO3.out
               obtain ⟨b0, b1, b2, b3, b4, b5, b6⟩ := cells_7 HZ3.out
               have hfz := free_7 HZ3.out)
  refine Calls.mono (HF.out _ HB3.out _) ?_
  rintro e w4 ⟨rfl, hw4⟩
  subst hw4
  rw [HU.out]
  obtain ⟨hgb, x0, x1, x2, x3, x4, x5, x6⟩ := (H.out.below HB3.out).cells HQ.out
  have hq0 : ¬ (q : Int) < 0 := by omega
  go_upto_region 8 with fail
  obtain ⟨w5, hw5⟩ : ∃ x, w4.alloc (.cells #[.string p, .string d, .int .i64 0, .int .i64 st, .int .i64 st, .int .i64 0, .int .i64 0] 69) = x := ⟨_, rfl⟩
  obtain ⟨nb, hnb⟩ : ∃ x, w4.heap.size = x := ⟨_, rfl⟩
  have hnz : ob + 1 < nb := by omega
  have HB5 : Hid (Below w.heap.size w w5) := by rw [← hw5]; exact HB3.out.alloc (by have := HB3.out.size; omega) _
  have HO5 : Hid (w5.heap[ob]? = some (.cells #[.int .i64 1, .string p, .string d, .int .i64 v, .int .i64 (f)] 83 (0, 0))) := by rw [← hw5]; exact new_old HO3.out _
  have HZ5 : Hid (w5.heap[ob + 1]? = some (.cells #[.string ⟨#[]⟩, .string ⟨#[]⟩, .int .i64 0, .int .i64 0, .int .i64 0, .int .i64 0, .slice none 0 0] 77 (0, 0))) := by rw [← hw5]; exact new_old HZ3.out _
  have HN5 : Hid (w5.heap[nb]? = some (.cells #[.string p, .string d, .int .i64 0, .int .i64 st, .int .i64 st, .int .i64 0, .int .i64 0] 69 (0, 0))) := by rw [← hw5, ← hnb]; exact heap_alloc_new _ _
  rw [hw5, hnb]
  clear hw5 hnb hz3 o0 o1 o2 o3 o4 b0 b1 b2 b3 b4 b5 b6 hfz x0 x1 x2 x3 x4 x5 x6 hgb ho1
  obtain ⟨o0, o1, o2, o3, o4⟩ := cells_5 HO5.out
  obtain ⟨b0, b1, b2, b3, b4, b5, b6⟩ := cells_7 HZ5.out
  have hfz := free_7 HZ5.out
  obtain ⟨hgb, x0, x1, x2, x3, x4, x5, x6⟩ := (H.out.below HB5.out).cells HQ.out
  obtain ⟨n0, n1, n2, n3, n4, n5, n6⟩ := cells_7 HN5.out
  have hfn := free_7 HN5.out
  go_upto_region 14 with (go_at_call 73; refine Calls.mono (HC.out _) ?_; rintro e w6 ⟨rfl, hb6⟩
                          have HB6 : Hid (Below w.heap.size w w6) := trans2 HB5.out hb6
                          have HO6 : Hid _ := kept_block hb6 HO5.out
                          have HZ6 : Hid _ := kept_block hb6 HZ5.out
                          have HN6 : Hid _ := kept_block hb6 HN5.out
                          clear hb6 o0 o1 o2 o3 o4 b0 b1 b2 b3 b4 b5 b6 hfz x0 x1 x2 x3 x4 x5 x6 hgb n0 n1 n2 n3 n4 n5 n6 hfn
                          obtain ⟨n0, n1, n2, n3, n4, n5, n6⟩ := cells_7 HN6.out
                          have hfn := free_7 HN6.out)
  obtain ⟨w7, hw7⟩ : ∃ x, w6.setCell ⟨nb, 0, none⟩ (.string at') = x := ⟨_, rfl⟩
  have HB7 : Hid (Below w.heap.size w w7) := by rw [← hw7]; exact HB6.out.setCell (show w.heap.size ≤ nb by rw [HOB.out]; omega) _
  have HO7 : Hid (w7.heap[ob]? = some (.cells #[.int .i64 1, .string p, .string d, .int .i64 v, .int .i64 (f)] 83 (0, 0))) := by rw [← hw7]; exact other_blk HO6.out (by omega)
  have HZ7 : Hid (w7.heap[ob + 1]? = some (.cells #[.string ⟨#[]⟩, .string ⟨#[]⟩, .int .i64 0, .int .i64 0, .int .i64 0, .int .i64 0, .slice none 0 0] 77 (0, 0))) := by rw [← hw7]; exact other_blk HZ6.out (by omega)
  have HN7 : Hid (w7.heap[nb]? = some (.cells #[.string at', .string d, .int .i64 0, .int .i64 st, .int .i64 st, .int .i64 0, .int .i64 0] 69 (0, 0))) := by rw [← hw7]; exact same_blk HN6.out rfl
  rw [hw7]
  clear hw7 n0 n1 n2 n3 n4 n5 n6 hfn HC
  obtain ⟨o0, o1, o2, o3, o4⟩ := cells_5 HO7.out
  obtain ⟨b0, b1, b2, b3, b4, b5, b6⟩ := cells_7 HZ7.out
  have hfz := free_7 HZ7.out
  obtain ⟨n0, n1, n2, n3, n4, n5, n6⟩ := cells_7 HN7.out
  have hfn := free_7 HN7.out
  go_wp2_with fail
  refine Calls.mono (HF.out _ HB7.out _) ?_
  rintro e w8 ⟨rfl, hw8⟩
  subst hw8
  rw [HG.out]
  have hg0 : (0 : Int) ≤ (g : Int) := by omega
  go_wp2_with fail
  exact bodyPost_ret (results_4c rfl _ _ (ob + 1) 77 #[.string ⟨#[]⟩, .string ⟨#[]⟩, .int .i64 0, .int .i64 0, .int .i64 0, .int .i64 0, .slice none 0 0] (0, 0) _ (.slice (some ⟨gb, gf, none⟩) N c) (.slice none 0 0) (.int .i64 41) rfl rfl rfl rfl (fill_7 HZ7.out) Tryz.underlying77 rfl (by kernel_rfl)) rfl (OneE.err HN.out c 41 H.out (fillB_7 HB7.out (by rw [HOB.out]; omega)))
set_option maxHeartbeats 8000000 in
set_option maxRecDepth 100000 in
theorem rm_Eh (a : Option Addr) (c : Nat) (T : List Nd) (s st : Int) (p d : ByteArray) (v : Int) (f : Int) (u : Nd) (q : Nat) (w : World) (h : NdsAt w a T) (hT : T.length ≤ 64) (hq : T[q]? = some u) (hu : fndI T (parB p) = q) (ho : u.o = 0) (hf : 2 ≤ f) (at' : ByteArray) (hk : u.k ≤ 99999) (hk0 : 0 ≤ u.k) (hc : ∀ W, Calls Tryz.prog 73 #[.string p, .int .i64 u.k] W fun e w' => e = .returned (.tuple #[.string at', .int .i64 0]) ∧ Below W.heap.size W w') (hg : fndI T at' = -1) (hN6 : 64 ≤ T.length) :
    Calls Tryz.prog 47 #[.slice a T.length c, .int .i64 s, .int .i64 st, opV 1 p d v f] w (OneE w (46, T, zr, [])) := by
  have ho1 : (u.o != 0) = false := by simpa using ho
  clear ho
  have hk2 : ¬ 99999 < u.k := by omega
  have HC : Hid (∀ W, Calls Tryz.prog 73 #[.string p, .int .i64 u.k] W fun e w' => e = .returned (.tuple #[.string at', .int .i64 0]) ∧ Below W.heap.size W w') := hc
  clear hc
  have HG : Hid (fndI T at' = -1) := hg
  clear hg
  have HNF : Hid (64 ≤ T.length) := hN6
  clear hN6
  have H : Hid (NdsAt w a T) := h
  have HP : Hid (∀ W, _) := fun W => refParent_any p W
  have HF : Hid (∀ W, Below w.heap.size w W → ∀ x, Calls Tryz.prog 33 #[.slice a T.length c, .string x] W fun e w' => e = .returned (.int .i64 (fndI T x)) ∧ w' = W) := fun W hb x => refFind_any a c T x W (h.below hb) (by omega)
  obtain ⟨N, hN⟩ : ∃ N, T.length = N := ⟨_, rfl⟩
  have HN : Hid (T.length = N) := hN
  rw [hN] at HF hT ⊢
  obtain ⟨ab, hab⟩ : ∃ ab, parB p = ab := ⟨_, rfl⟩
  rw [hab] at HP  hu
  have HU : Hid (fndI T ab = (q : Int)) := hu
  have HQ : Hid (T[q]? = some u) := hq
  have hqN : q < N := by rw [← hN]; exact (List.getElem?_eq_some_iff.1 hq).1
  obtain ⟨gb, gf, rfl⟩ := h.some hq
  clear hq
  clear h hN hab hu
  go_enter Tryz.func47, Tryz.ntmps47
  go_upto_region 1 with fail
  obtain ⟨W2, hW2⟩ : ∃ x, (w.alloc (.cells #[.int .i64 1, .string p, .string d, .int .i64 v, .int .i64 (f)] 83)).alloc (.cells #[.string ⟨#[]⟩, .string ⟨#[]⟩, .int .i64 0, .int .i64 0, .int .i64 0, .int .i64 0, .slice none 0 0] 77) = x := ⟨_, rfl⟩
  obtain ⟨ob, hob⟩ : ∃ x, w.heap.size = x := ⟨_, rfl⟩
  have HOB : Hid (w.heap.size = ob) := hob
  have HB2 : Hid (Below w.heap.size w W2) := by rw [← hW2]; exact ((Below.refl _ _).alloc (Nat.le_refl _) _).alloc (by simp) _
  have HO2 : Hid (W2.heap[ob]? = some (.cells #[.int .i64 1, .string p, .string d, .int .i64 v, .int .i64 (f)] 83 (0, 0))) := by rw [← hW2, ← hob]; exact heap_alloc2_old _ _ _
  have HZ2 : Hid (W2.heap[ob + 1]? = some (.cells #[.string ⟨#[]⟩, .string ⟨#[]⟩, .int .i64 0, .int .i64 0, .int .i64 0, .int .i64 0, .slice none 0 0] 77 (0, 0))) := by rw [← hW2, ← hob]; exact heap_alloc2_new _ _ _
  rw [hW2, hob]
  clear hW2 hob
  obtain ⟨o0, o1, o2, o3, o4⟩ := cells_5 HO2.out
  go_wp2_with (go_at_call 59; refine Calls.mono (HP.out _) ?_; rintro e w3 ⟨rfl, hb3⟩
               have HB3 : Hid (Below w.heap.size w w3) := trans2 HB2.out hb3
               have HO3 : Hid _ := kept_block hb3 HO2.out
               have HZ3 : Hid _ := kept_block hb3 HZ2.out
               have hz3 : ob + 1 < w3.heap.size := (Array.getElem?_eq_some_iff.1 HZ3.out).1
               clear hb3 o0 o1 o2 o3 o4
               obtain ⟨o0, o1, o2, o3, o4⟩ := cells_5 HO3.out
               obtain ⟨b0, b1, b2, b3, b4, b5, b6⟩ := cells_7 HZ3.out
               have hfz := free_7 HZ3.out)
  refine Calls.mono (HF.out _ HB3.out _) ?_
  rintro e w4 ⟨rfl, hw4⟩
  subst hw4
  rw [HU.out]
  obtain ⟨hgb, x0, x1, x2, x3, x4, x5, x6⟩ := (H.out.below HB3.out).cells HQ.out
  have hq0 : ¬ (q : Int) < 0 := by omega
  go_upto_region 8 with fail
  obtain ⟨w5, hw5⟩ : ∃ x, w4.alloc (.cells #[.string p, .string d, .int .i64 0, .int .i64 st, .int .i64 st, .int .i64 0, .int .i64 0] 69) = x := ⟨_, rfl⟩
  obtain ⟨nb, hnb⟩ : ∃ x, w4.heap.size = x := ⟨_, rfl⟩
  have hnz : ob + 1 < nb := by omega
  have HB5 : Hid (Below w.heap.size w w5) := by rw [← hw5]; exact HB3.out.alloc (by have := HB3.out.size; omega) _
  have HO5 : Hid (w5.heap[ob]? = some (.cells #[.int .i64 1, .string p, .string d, .int .i64 v, .int .i64 (f)] 83 (0, 0))) := by rw [← hw5]; exact new_old HO3.out _
  have HZ5 : Hid (w5.heap[ob + 1]? = some (.cells #[.string ⟨#[]⟩, .string ⟨#[]⟩, .int .i64 0, .int .i64 0, .int .i64 0, .int .i64 0, .slice none 0 0] 77 (0, 0))) := by rw [← hw5]; exact new_old HZ3.out _
  have HN5 : Hid (w5.heap[nb]? = some (.cells #[.string p, .string d, .int .i64 0, .int .i64 st, .int .i64 st, .int .i64 0, .int .i64 0] 69 (0, 0))) := by rw [← hw5, ← hnb]; exact heap_alloc_new _ _
  rw [hw5, hnb]
  clear hw5 hnb hz3 o0 o1 o2 o3 o4 b0 b1 b2 b3 b4 b5 b6 hfz x0 x1 x2 x3 x4 x5 x6 hgb ho1
  obtain ⟨o0, o1, o2, o3, o4⟩ := cells_5 HO5.out
  obtain ⟨b0, b1, b2, b3, b4, b5, b6⟩ := cells_7 HZ5.out
  have hfz := free_7 HZ5.out
  obtain ⟨hgb, x0, x1, x2, x3, x4, x5, x6⟩ := (H.out.below HB5.out).cells HQ.out
  obtain ⟨n0, n1, n2, n3, n4, n5, n6⟩ := cells_7 HN5.out
  have hfn := free_7 HN5.out
  go_upto_region 14 with (go_at_call 73; refine Calls.mono (HC.out _) ?_; rintro e w6 ⟨rfl, hb6⟩
                          have HB6 : Hid (Below w.heap.size w w6) := trans2 HB5.out hb6
                          have HO6 : Hid _ := kept_block hb6 HO5.out
                          have HZ6 : Hid _ := kept_block hb6 HZ5.out
                          have HN6 : Hid _ := kept_block hb6 HN5.out
                          clear hb6 o0 o1 o2 o3 o4 b0 b1 b2 b3 b4 b5 b6 hfz x0 x1 x2 x3 x4 x5 x6 hgb n0 n1 n2 n3 n4 n5 n6 hfn
                          obtain ⟨n0, n1, n2, n3, n4, n5, n6⟩ := cells_7 HN6.out
                          have hfn := free_7 HN6.out)
  obtain ⟨w7, hw7⟩ : ∃ x, w6.setCell ⟨nb, 0, none⟩ (.string at') = x := ⟨_, rfl⟩
  have HB7 : Hid (Below w.heap.size w w7) := by rw [← hw7]; exact HB6.out.setCell (show w.heap.size ≤ nb by rw [HOB.out]; omega) _
  have HO7 : Hid (w7.heap[ob]? = some (.cells #[.int .i64 1, .string p, .string d, .int .i64 v, .int .i64 (f)] 83 (0, 0))) := by rw [← hw7]; exact other_blk HO6.out (by omega)
  have HZ7 : Hid (w7.heap[ob + 1]? = some (.cells #[.string ⟨#[]⟩, .string ⟨#[]⟩, .int .i64 0, .int .i64 0, .int .i64 0, .int .i64 0, .slice none 0 0] 77 (0, 0))) := by rw [← hw7]; exact other_blk HZ6.out (by omega)
  have HN7 : Hid (w7.heap[nb]? = some (.cells #[.string at', .string d, .int .i64 0, .int .i64 st, .int .i64 st, .int .i64 0, .int .i64 0] 69 (0, 0))) := by rw [← hw7]; exact same_blk HN6.out rfl
  rw [hw7]
  clear hw7 n0 n1 n2 n3 n4 n5 n6 hfn HC
  obtain ⟨o0, o1, o2, o3, o4⟩ := cells_5 HO7.out
  obtain ⟨b0, b1, b2, b3, b4, b5, b6⟩ := cells_7 HZ7.out
  have hfz := free_7 HZ7.out
  obtain ⟨n0, n1, n2, n3, n4, n5, n6⟩ := cells_7 HN7.out
  have hfn := free_7 HN7.out
  go_wp2_with fail
  refine Calls.mono (HF.out _ HB7.out _) ?_
  rintro e w8 ⟨rfl, hw8⟩
  subst hw8
  rw [HG.out]
  have hN64 : (64 : Int) ≤ (N : Int) := by have := HNF.out; rw [HN.out] at this; omega
  go_wp2_with fail
  exact bodyPost_ret (results_4c rfl _ _ (ob + 1) 77 #[.string ⟨#[]⟩, .string ⟨#[]⟩, .int .i64 0, .int .i64 0, .int .i64 0, .int .i64 0, .slice none 0 0] (0, 0) _ (.slice (some ⟨gb, gf, none⟩) N c) (.slice none 0 0) (.int .i64 46) rfl rfl rfl rfl (fill_7 HZ7.out) Tryz.underlying77 rfl (by kernel_rfl)) rfl (OneE.err HN.out c 46 H.out (fillB_7 HB7.out (by rw [HOB.out]; omega)))
end Go.Proofs.YtmbomdhhiioigaaGreatDoor
