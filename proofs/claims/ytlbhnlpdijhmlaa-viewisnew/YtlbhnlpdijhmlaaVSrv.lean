/-
  view: a service in memory; the small functions.
-/
import Derived.Test.YtlbhnlpdijhmlaaVNote
import Derived.Test.YtlbhnlpdijhmlaaQLocks
namespace Go.Proofs.Ytlbhnlpdijhmlaa
open Go.RowKit Go.MuLone
set_option linter.unusedVariables false
set_option linter.unusedSimpArgs false

theorem cells_5 {W : World} {b : Nat} {t : TypeId} {x0 x1 x2 x3 x4 : Value} (h : W.heap[b]? = some (.cells #[x0, x1, x2, x3, x4] t (0, 0))) : W.cell? ⟨b, 0, none⟩ = some x0 ∧ W.cell? ⟨b, 1, none⟩ = some x1 ∧ W.cell? ⟨b, 2, none⟩ = some x2 ∧ W.cell? ⟨b, 3, none⟩ = some x3 ∧ W.cell? ⟨b, 4, none⟩ = some x4 := by
  simp [World.cell?, h]
/-- A service that lies in memory; x: its lock. -/
structure SrvAt (w : World) (b : Nat) (x : Int) (V : SvT) (v : Value) : Prop where
  ok : V.Ok
  box : w.heap[b]? = some (.cells #[.int .i64 V.nodes, .int .i32 x, .int .u32 0, v, .bool V.set] 70 (0, 0))
  row : w.ownsRow 0 28 3 v V.l.length (V.l.flatMap vwCs)
  apart : v.ownBlock ≠ some b
theorem SrvAt.lt {w : World} {b : Nat} {x : Int} {V : SvT} {v : Value} (h : SrvAt w b x V v) : b < w.heap.size := lt_of_blk h.box
theorem SrvAt.lock {w : World} {b : Nat} {x : Int} {V : SvT} {v : Value} (h : SrvAt w b x V v) : w.cell? ⟨b, 1, none⟩ = some (.int .i32 x) := (cells_5 h.box).2.1
theorem SrvAt.free {w : World} {b : Nat} {x : Int} {V : SvT} {v : Value} (h : SrvAt w b x V v) (o : Nat) : w.frozen? ⟨b, o, none⟩ = false := free_of h.box o
theorem SrvAt.same {w w' : World} {b : Nat} {x : Int} {V : SvT} {v : Value} (h : SrvAt w b x V v) (h1 : w'.heap[b]? = w.heap[b]?) (h2 : ∀ j, v.ownBlock = some j → w'.heap[j]? = w.heap[j]?) : SrvAt w' b x V v :=
  ⟨h.ok, by rw [h1]; exact h.box, owns_same h.row h2, h.apart⟩
theorem SrvAt.keep {w w' : World} {b : Nat} {x : Int} {V : SvT} {v : Value} (h : SrvAt w b x V v) (hk : Kp w w' (fun j => j = b ∨ v.ownBlock = some j)) : SrvAt w' b x V v :=
  h.same (hk.block b h.lt (.inl rfl)) (fun j hj => hk.block j (row_block h.row j hj).2 (.inr hj))
theorem SrvAt.below {w w' : World} {b : Nat} {x : Int} {V : SvT} {v : Value} (h : SrvAt w b x V v) (hb : Below w.heap.size w w') : SrvAt w' b x V v := h.keep (Kp.of_below hb _)
/-- A cell of the service's own block is set. -/
theorem SrvAt.set {w : World} {b : Nat} {x : Int} {V : SvT} {v : Value} (h : SrvAt w b x V v) {o : Nat} {u : Value} {x' : Int} {V' : SvT} (ok : V'.Ok) (hl : V'.l = V.l) (he : (#[.int .i64 V.nodes, .int .i32 x, .int .u32 0, v, .bool V.set] : Array Value).setIfInBounds o u = #[.int .i64 V'.nodes, .int .i32 x', .int .u32 0, v, .bool V'.set]) : SrvAt (w.setCell ⟨b, o, none⟩ u) b x' V' v :=
  ⟨ok, same_blk h.box he, by rw [hl]; exact owns_same h.row (fun j hj => Below.heap_setCell w ⟨b, o, none⟩ u j (fun e => h.apart (by rw [hj, e]))), h.apart⟩
theorem SrvAt.locked {w : World} {b : Nat} {x : Int} {V : SvT} {v : Value} (h : SrvAt w b x V v) (y : Int) : SrvAt (w.setCell ⟨b, 1, none⟩ (.int .i32 y)) b y V v := h.set h.ok rfl rfl
theorem set_set {w : World} {b i : Nat} {cs : Array Value} {t : TypeId} {v v' : Value} (h : w.heap[b]? = some (.cells cs t (0, 0))) : (w.setCell ⟨b, i, none⟩ v).setCell ⟨b, i, none⟩ v' = w.setCell ⟨b, i, none⟩ v' := by
  rw [setCell_eq_setRow (w.setCell ⟨b, i, none⟩ v) b i _ t (0, 0) v' (set_at h), setCell_eq_setRow w b i cs t (0, 0) v h, setCell_eq_setRow w b i cs t (0, 0) v' h, setRow_setRow]
  congr 1
  apply Array.ext_getElem?
  intro j
  simp only [Array.getElem?_setIfInBounds, Array.size_setIfInBounds]
  split <;> rfl
theorem SrvAt.back {w : World} {b : Nat} {V : SvT} {v : Value} (h : SrvAt w b 0 V v) : (w.setCell ⟨b, 1, none⟩ (.int .i32 1)).setCell ⟨b, 1, none⟩ (.int .i32 0) = w := by
  rw [set_set h.box]
  exact setCell_self h.box h.lock
theorem isNone_nil (w : World) : Calls Try.prog 24 #[.pointer none] w fun e w' => e = .returned (.bool true) ∧ w' = w := by
  go_enter Try.func24, Try.ntmps24
  go_wp2_with fail
  go_ret
  exact ⟨rfl, rfl⟩
theorem isNone_any (b : Nat) (x : Int) (V : SvT) (v : Value) (w : World) (h : SrvAt w b x V v) : Calls Try.prog 24 #[.pointer (some ⟨b, 0, none⟩)] w fun e w' => e = .returned (.bool (V.nodes == 0)) ∧ w' = w := by
  have c0 := (cells_5 h.box).1
  clear h
  go_enter Try.func24, Try.ntmps24
  go_wp2_with fail
  go_ret
  exact ⟨rfl, rfl⟩
theorem isNode_any (b : Nat) (x : Int) (V : SvT) (v : Value) (n : Int) (w : World) (h : SrvAt w b x V v) : Calls Try.prog 41 #[.pointer (some ⟨b, 0, none⟩), .int .i64 n] w fun e w' => e = .returned (.bool (decide (1 ≤ n ∧ n ≤ V.nodes))) ∧ w' = w := by
  have c0 := (cells_5 h.box).1
  clear h
  by_cases h1 : 1 ≤ n
  · go_enter Try.func41, Try.ntmps41
    go_wp2_with fail
    go_ret
    exact ⟨by simp [h1], rfl⟩
  · go_enter Try.func41, Try.ntmps41
    go_wp2_with fail
    go_ret
    exact ⟨by simp; omega, rfl⟩
set_option maxHeartbeats 1600000 in
set_option maxRecDepth 100000 in
theorem now_any (b : Nat) (x : Int) (V : SvT) (v : Value) (w : World) (h : SrvAt w b x V v) (he : V.l ≠ []) :
    Calls Try.prog 27 #[.pointer (some ⟨b, 0, none⟩)] w fun e w' => e = .returned (vwV (lastV V.l)) ∧ Below w.heap.size w w' := by
  have hv : VwsAt w (fun _ => True) v V.l := vws_row h.row (fun _ _ => trivial)
  have hl := h.ok.len
  have hx := h.box
  clear h
  obtain ⟨a, c, rfl, hc⟩ := RowAt.form hv
  obtain ⟨n, hn⟩ : ∃ n, V.l.length = n + 1 := ⟨V.l.length - 1, by have := List.length_pos_iff.2 he; omega⟩
  have hla := lastV_at he
  obtain ⟨t, ht⟩ : ∃ t, lastV V.l = t := ⟨_, rfl⟩
  rw [ht] at hla ⊢
  rw [hn] at hla hl hx
  obtain ⟨g, o, rfl, hS, hlt, x0, x1, x2⟩ := RowAt.get hv (show V.l[n]? = some t from hla)
  have hB : Below w.heap.size w (w.alloc (.cells #[.int .i64 0, .int .i64 0, .int .i64 0] 28)) := (Below.refl _ _).alloc (Nat.le_refl _) _
  have hn1 : (w.alloc (.cells #[.int .i64 0, .int .i64 0, .int .i64 0] 28)).heap[w.heap.size]? = some (.cells #[.int .i64 0, .int .i64 0, .int .i64 0] 28 (0, 0)) := heap_alloc_new _ _
  have hx1 := new_old hx (.cells #[.int .i64 0, .int .i64 0, .int .i64 0] 28)
  obtain ⟨W, hWW⟩ : ∃ W, w.alloc (.cells #[.int .i64 0, .int .i64 0, .int .i64 0] 28) = W := ⟨_, rfl⟩
  rw [hWW] at hB hn1 hx1
  have HW : Hid (w.alloc (.cells #[.int .i64 0, .int .i64 0, .int .i64 0] 28) = W) := hWW
  have HB : Hid (Below w.heap.size w W) := hB
  have HX : Hid (W.heap[w.heap.size]? = some (.cells #[.int .i64 0, .int .i64 0, .int .i64 0] 28 (0, 0))) := hn1
  obtain ⟨r0, r1, r2⟩ := cells_3 hn1
  have fr : ∀ o, W.frozen? ⟨w.heap.size, o, none⟩ = false := free_of hn1
  have c3 := (cells_5 hx1).2.2.2.1
  have y0 : W.cell? ⟨g, o + n * 3, none⟩ = some (.int .i64 t.n) := by rw [hB.cell (p := ⟨g, o + n * 3, none⟩) hlt]; exact x0
  have y1 : W.cell? ⟨g, o + n * 3 + 1, none⟩ = some (.int .i64 t.p) := by rw [hB.cell (p := ⟨g, o + n * 3 + 1, none⟩) hlt]; exact x1
  have y2 : W.cell? ⟨g, o + n * 3 + 2, none⟩ = some (.int .i64 t.b) := by rw [hB.cell (p := ⟨g, o + n * 3 + 2, none⟩) hlt]; exact x2
  have hz : ((n + 1 : Nat) : Int) = (n : Int) + 1 := by omega
  have hz3 : (n : Int) + 1 - 1 = n := by omega
  clear hv x0 x1 x2 he hn ht hx hx1 hWW hB hn1
  go_enter Try.func27, Try.ntmps27
  go_upto_region 1 with fail
  rw [HW.out]
  go_region
  all_goals
    go_wp2_with fail
    exact bodyPost_ret (results_cell rfl _ _ w.heap.size 28 _ (0, 0) _ rfl (fill_3 HX.out) Try.underlying28 rfl (by kernel_rfl)) rfl ⟨rfl, by first | exact fillB_3 HB.out (Nat.le_refl _) | exact below_drew (fillB_3 HB.out (Nat.le_refl _)) | exact below_drew (below_drew (fillB_3 HB.out (Nat.le_refl _)))⟩
end Go.Proofs.Ytlbhnlpdijhmlaa
