/-
  ring: At.
-/
import Derived.Test.YtnmengoefpdaiaaRRun
namespace Go.Proofs.Ytnmengoefpdaiaa
open Go.RowKit
set_option linter.unusedVariables false
set_option linter.unusedSimpArgs false

theorem ls_of_row {α : Type} {f : α → List Value} {s : Nat} (hf : ∀ a, (f a).length = s) {w : World} {base e n c m : Nat} {a : Option Addr} {l : List α} (h : w.ownsRow base e s (.slice a n c) m (rowCs f l)) (hs : 0 < s) (hm : m = l.length) : Ls f s w a l := by
  obtain ⟨a', c', hv, h0, h1⟩ := owns_form h
  cases hv
  cases a with
  | none => exact .inl (List.eq_nil_of_length_eq_zero (by rw [← hm]; exact (h0 rfl).2))
  | some ad =>
    obtain ⟨g, rfl⟩ := h1 ad rfl
    exact ls_of_owns hf (rest := []) (base := base) (e := e) (n := n) (cap := c) (by rw [List.append_nil]; exact h)
theorem os_of_own {w : World} {n c : Nat} {a : Option Addr} {l : List OpT} (h : OwnOps w (.slice a n c) l) : Os w a l := ls_of_row op_len h (by decide) rfl
abbrev zeroE : EnT := ⟨0, 0, 0, 0, 0, []⟩
theorem own_nil (w : World) : OwnOps w (.slice none 0 0) [] := ⟨rfl, .inl ⟨rfl, rfl⟩⟩
theorem results_ct {P : Program} {fn : Func} {p q : Tmp} {ty : TypeId} (h : fn.results = #[.cell p ty, .tmp q]) (tmps : Array Value) (w : World) (g : Nat) (t : TypeId) (cs : Array Value) (fr : Nat × Nat) (d : TypeDesc) (v : Value)
    (hp : tmps.getD p undef = .pointer (some ⟨g, 0, none⟩)) (hq : tmps.getD q undef = v) (hg : w.heap[g]? = some (.cells cs t fr))
    (hu : P.underlying ty = some d) (hd : (match d with | .struct _ | .array _ _ => true | _ => false) = true) (hi : (P.info? ty).map (·.size) = some cs.size) :
    (results fn tmps).run P w = .ok (.tuple #[.agg cs, v]) w := by
  have hp' : tmps[p]?.getD undef = .pointer (some ⟨g, 0, none⟩) := by simpa using hp
  have hq' : tmps[q]?.getD undef = v := by simpa using hq
  simp [results, h, hp', hq', asAddr, run_loadVar_row w g t ty cs fr d hg hu hd hi]
set_option maxHeartbeats 1600000 in
theorem at_old (p : Option Addr) (R : RingT) (n : Int) (w : World) (h : RP w p R) (hn : n ≤ R.floor) : Calls Try.prog 10 #[.pointer p, .int .i64 n] w fun e' w' => e' = .returned (.tuple #[zeroE.val (.slice none 0 0), .int .i64 60]) ∧ Below w.heap.size w w' := by
  have HO : Hid (∀ w', Below w.heap.size w w' → _) := fun w' hb => orZero_any p R w' (h.below hb)
  obtain ⟨L, hL⟩ : ∃ L, R.last = L := ⟨_, rfl⟩
  have hfl : R.floor ≤ L := by rw [← hL]; exact Nat.le_add_right _ _
  have HL : Hid (R.last = L) := hL
  clear h hL
  go_enter Try.func10, Try.ntmps10
  go_wp2_with fail
  refine Calls.mono (HO.out _ ((Below.refl _ _).alloc (Nat.le_refl _) _)) ?_
  rintro e' w1 ⟨b, rfl, hr, hb, hp⟩
  have HB : Hid (Below w.heap.size w w1) := trans2 ((Below.refl _ _).alloc (Nat.le_refl _) _) hb
  have HZ : Hid (w1.heap[w.heap.size]? = some (.cells #[.int .i64 0, .int .i64 0, .int .i64 0, .int .i64 0, .int .i64 0, .slice none 0 0] 38 (0, 0))) := kept_block hb (heap_alloc_new _ _)
  obtain ⟨z0, z1, z2, z3, z4, z5⟩ := cells_6 HZ.out
  have fz := free_blk HZ.out
  have c5 := hr.floor
  have c8 := hr.last
  rw [HL.out] at c8
  have HR : Hid (RingAt w1 b R) := hr
  clear hr hb hp HO
  go_wp2_with fail
  exact bodyPost_ret (results_ct rfl _ _ w.heap.size 38 _ (0, 0) _ (.int .i64 60) rfl rfl (fill_6 HZ.out) Try.underlying38 rfl (by kernel_rfl)) rfl ⟨rfl, fillB_6 HB.out (Nat.le_refl _)⟩
set_option maxHeartbeats 1600000 in
theorem at_gap (p : Option Addr) (R : RingT) (n : Int) (w : World) (h : RP w p R) (hn : (R.last : Int) < n) : Calls Try.prog 10 #[.pointer p, .int .i64 n] w fun e' w' => e' = .returned (.tuple #[zeroE.val (.slice none 0 0), .int .i64 61]) ∧ Below w.heap.size w w' := by
  have HO : Hid (∀ w', Below w.heap.size w w' → _) := fun w' hb => orZero_any p R w' (h.below hb)
  obtain ⟨L, hL⟩ : ∃ L, R.last = L := ⟨_, rfl⟩
  have hfl : R.floor ≤ L := by rw [← hL]; exact Nat.le_add_right _ _
  have HL : Hid (R.last = L) := hL
  rw [hL] at hn
  clear h hL
  go_enter Try.func10, Try.ntmps10
  go_wp2_with fail
  refine Calls.mono (HO.out _ ((Below.refl _ _).alloc (Nat.le_refl _) _)) ?_
  rintro e' w1 ⟨b, rfl, hr, hb, hp⟩
  have HB : Hid (Below w.heap.size w w1) := trans2 ((Below.refl _ _).alloc (Nat.le_refl _) _) hb
  have HZ : Hid (w1.heap[w.heap.size]? = some (.cells #[.int .i64 0, .int .i64 0, .int .i64 0, .int .i64 0, .int .i64 0, .slice none 0 0] 38 (0, 0))) := kept_block hb (heap_alloc_new _ _)
  obtain ⟨z0, z1, z2, z3, z4, z5⟩ := cells_6 HZ.out
  have fz := free_blk HZ.out
  have c5 := hr.floor
  have c8 := hr.last
  rw [HL.out] at c8
  have HR : Hid (RingAt w1 b R) := hr
  clear hr hb hp HO
  have hn1 : (R.floor : Int) < n := by omega
  go_wp2_with fail
  exact bodyPost_ret (results_ct rfl _ _ w.heap.size 38 _ (0, 0) _ (.int .i64 61) rfl rfl (fill_6 HZ.out) Try.underlying38 rfl (by kernel_rfl)) rfl ⟨rfl, fillB_6 HB.out (Nat.le_refl _)⟩
set_option maxHeartbeats 1600000 in
theorem at_ok (p : Option Addr) (R : RingT) (n : Int) (w : World) (h : RP w p R) (k : Nat) (e : EnT) (hn : n = ((R.floor + 1 + k : Nat) : Int)) (hk : R.l[k]? = some e) : Calls Try.prog 10 #[.pointer p, .int .i64 n] w fun e' w' => ∃ x, e' = .returned (.tuple #[e.val x, .int .i64 0]) ∧ OwnOps w' x e.ops ∧ Below w.heap.size w w' ∧ (∀ k, x.ownBlock = some k → w.heap.size ≤ k) := by
  have HO : Hid (∀ w', Below w.heap.size w w' → _) := fun w' hb => orZero_any p R w' (h.below hb)
  obtain ⟨L, hL⟩ : ∃ L, R.last = L := ⟨_, rfl⟩
  have hfl : R.floor ≤ L := by rw [← hL]; exact Nat.le_add_right _ _
  have HL : Hid (R.last = L) := hL
  obtain ⟨N, hN⟩ : ∃ N, R.floor + 1 + k = N := ⟨_, rfl⟩
  rw [hN] at hn
  subst hn
  have HN : Hid (R.floor + 1 + k = N) := hN
  have hn1 : R.floor < N := by omega
  have hn2 : N ≤ L := by
    have h1 := (List.getElem?_eq_some_iff.1 hk).1
    have h2 : R.floor + R.l.length = L := hL
    omega
  clear h hL
  go_enter Try.func10, Try.ntmps10
  go_wp2_with fail
  refine Calls.mono (HO.out _ ((Below.refl _ _).alloc (Nat.le_refl _) _)) ?_
  rintro e' w1 ⟨b, rfl, hr, hb, hp⟩
  have HB : Hid (Below w.heap.size w w1) := trans2 ((Below.refl _ _).alloc (Nat.le_refl _) _) hb
  have HZ : Hid (w1.heap[w.heap.size]? = some (.cells #[.int .i64 0, .int .i64 0, .int .i64 0, .int .i64 0, .int .i64 0, .slice none 0 0] 38 (0, 0))) := kept_block hb (heap_alloc_new _ _)
  obtain ⟨z0, z1, z2, z3, z4, z5⟩ := cells_6 HZ.out
  have fz := free_blk HZ.out
  have c5 := hr.floor
  have c8 := hr.last
  rw [HL.out] at c8
  have HR : Hid (RingAt w1 b R) := hr
  clear hr hb hp HO
  have HAT : Hid (∀ w', Below w1.heap.size w1 w' → _) := fun w' hb => at_any b k R e w' (HR.out.below hb) hk
  rw [HN.out] at HAT
  obtain ⟨x, hx, hc⟩ := HR.out.ents k e hk
  rw [HN.out] at hc
  obtain ⟨xa, xc, rfl, hx0, hx1⟩ := owns_form hx
  have hs := HR.out.ok.small e (List.mem_of_getElem? hk)
  have hos : Os w1 xa e.ops := os_of_own hx
  have HOW : Hid (∀ w', Below w1.heap.size w1 w' → _) := fun w' hb => own_any e xa xc e.ops.length w' rfl (hos.below hb) hs
  have g0 := hc 0 _ rfl
  rw [Nat.add_zero] at g0
  have g1 := hc 1 _ rfl
  have g2 := hc 2 _ rfl
  have g3 := hc 3 _ rfl
  have g4 := hc 4 _ rfl
  have g5 := hc 5 _ rfl
  obtain ⟨o, ho⟩ : ∃ o, N % R.room * 6 = o := ⟨_, rfl⟩
  rw [ho] at g0 g1 g2 g3 g4 g5 HAT
  clear hc hx hx0 hx1 hs hos ho
  go_wp2_with fail
  refine Calls.mono (HAT.out _ (Below.refl _ _)) ?_
  rintro e' w2 ⟨rfl, n2, rfl⟩
  go_wp2_with fail
  refine Calls.mono (HOW.out _ (below_drewN (Below.refl _ _) _)) ?_
  rintro e' w3 ⟨x, rfl, ho3, hb3, hx3⟩
  have HB3 : Hid (Below w.heap.size w w3) := trans2 (below_drewN HB.out _) hb3
  have HZ3 : Hid (w3.heap[w.heap.size]? = some (.cells #[.int .i64 0, .int .i64 0, .int .i64 0, .int .i64 0, .int .i64 0, .slice none 0 0] 38 (0, 0))) := kept_block hb3 HZ.out
  have HO3 : Hid (OwnOps w3 x e.ops) := ho3
  have HX3 : Hid (∀ k, x.ownBlock = some k → w1.heap.size ≤ k) := hx3
  obtain ⟨z0, z1, z2, z3, z4, z5⟩ := cells_6 HZ3.out
  have fz := free_blk HZ3.out
  obtain ⟨ya, yn, yc, rfl⟩ : ∃ ya yn yc, x = .slice ya yn yc := by obtain ⟨ya, yc, h, _⟩ := owns_form ho3; exact ⟨_, _, _, h⟩
  clear ho3 hb3 hx3
  go_wp2_with fail
  refine bodyPost_ret (results_ct rfl _ _ w.heap.size 38 _ (0, 0) _ (.int .i64 0) rfl rfl (fill_6 HZ3.out) Try.underlying38 rfl (by kernel_rfl)) rfl ⟨_, rfl, ?_, fillB_6 HB3.out (Nat.le_refl _), fun k hk => Nat.le_trans HB.out.size (HX3.out k hk)⟩
  refine owns_same HO3.out (fun j hj => ?_)
  have hne : j ≠ w.heap.size := by
    have h1 := HX3.out j hj
    have h2 := lt_of_blk HZ.out
    omega
  rw [Below.heap_setCell _ _ _ _ hne, Below.heap_setCell _ _ _ _ hne, Below.heap_setCell _ _ _ _ hne, Below.heap_setCell _ _ _ _ hne, Below.heap_setCell _ _ _ _ hne, Below.heap_setCell _ _ _ _ hne]
/-- At: the entry and the error. -/
def RingT.atE (R : RingT) (n : Int) : EnT := if n ≤ R.floor then zeroE else (R.l[(n - R.floor - 1).toNat]?).getD zeroE
def RingT.atC (R : RingT) (n : Int) : Int := if n ≤ R.floor then 60 else if (R.last : Int) < n then 61 else 0
theorem atT_any (p : Option Addr) (R : RingT) (n : Int) (w : World) (h : RP w p R) : Calls Try.prog 10 #[.pointer p, .int .i64 n] w fun e' w' => ∃ x, e' = .returned (.tuple #[(R.atE n).val x, .int .i64 (R.atC n)]) ∧ OwnOps w' x (R.atE n).ops ∧ Below w.heap.size w w' ∧ (∀ k, x.ownBlock = some k → w.heap.size ≤ k) := by
  unfold RingT.atE RingT.atC
  by_cases h1 : n ≤ R.floor
  · rw [if_pos h1, if_pos h1]
    refine (at_old p R n w h h1).mono ?_
    rintro e' w' ⟨rfl, hb⟩
    exact ⟨_, rfl, own_nil w', hb, fun k hk => by cases hk⟩
  · rw [if_neg h1, if_neg h1]
    have hlast : (R.last : Int) = R.floor + R.l.length := by show ((R.floor + R.l.length : Nat) : Int) = _; omega
    by_cases h2 : (R.last : Int) < n
    · rw [if_pos h2, List.getElem?_eq_none (by omega)]
      refine (at_gap p R n w h h2).mono ?_
      rintro e' w' ⟨rfl, hb⟩
      exact ⟨_, rfl, own_nil w', hb, fun k hk => by cases hk⟩
    · rw [if_neg h2]
      obtain ⟨e, he⟩ : ∃ e, R.l[(n - R.floor - 1).toNat]? = some e := ⟨_, List.getElem?_eq_getElem (by omega)⟩
      rw [he]
      exact at_ok p R n w h (n - R.floor - 1).toNat e (by omega) he
end Go.Proofs.Ytnmengoefpdaiaa
