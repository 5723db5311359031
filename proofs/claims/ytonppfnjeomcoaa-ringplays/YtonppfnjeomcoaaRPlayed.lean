/-
  played, at rings without room.
-/
import Derived.Test.YtonppfnjeomcoaaRAsked
namespace Go.Proofs.Ytonppfnjeomcoaa
open Go.RowKit Classical
set_option linter.unusedVariables false
set_option linter.unusedSimpArgs false

theorem cells_9 {W : World} {b : Nat} {t : TypeId} {x0 x1 x2 x3 x4 x5 x6 x7 x8 : Value} (h : W.heap[b]? = some (.cells #[x0, x1, x2, x3, x4, x5, x6, x7, x8] t (0, 0))) : W.cell? ⟨b, 0, none⟩ = some x0 ∧ W.cell? ⟨b, 1, none⟩ = some x1 ∧ W.cell? ⟨b, 2, none⟩ = some x2 ∧ W.cell? ⟨b, 3, none⟩ = some x3 ∧ W.cell? ⟨b, 4, none⟩ = some x4 ∧ W.cell? ⟨b, 5, none⟩ = some x5 ∧ W.cell? ⟨b, 6, none⟩ = some x6 ∧ W.cell? ⟨b, 7, none⟩ = some x7 ∧ W.cell? ⟨b, 8, none⟩ = some x8 := by
  simp [World.cell?, h]
set_option maxHeartbeats 3200000 in
set_option maxRecDepth 100000 in
theorem near_any (last of : Int) (A : ActT) (x : Value) (w : World) (hx : ∃ a n c, x = .slice a n c) :
    Calls Try.prog 37 #[.int .i64 last, .int .i64 of, A.val x] w fun e' w' => ∃ s v, e' = .returned (.agg #[.int .i64 s, .int .i64 v, .int .i64 A.e.k, .int .i64 A.e.se, .int .i64 A.e.rq, x]) ∧ Below w.heap.size w w' := by
  obtain ⟨kd, N, M, e⟩ := A
  obtain ⟨a, n, c, rfl⟩ := hx
  go_enter Try.func37, Try.ntmps37
  go_wp2_with fail
  refine bodyPost_ret (results_cell_row rfl _ _ (w.heap.size + 1) 33 _ (0, 0) _ rfl (new_old (heap_new' (by simp)) _) Try.underlying33 rfl (by kernel_rfl)) rfl ⟨_, _, rfl, ((((Below.refl _ _).alloc (Nat.le_refl _) _).alloc (by simp) _)).alloc (by simp; omega) _⟩
set_option maxHeartbeats 3200000 in
set_option maxRecDepth 100000 in
theorem played_1 (p : Option Addr) (bx : Nat) (A : ActT) (a : Option Addr) (c n : Nat) (w : World) (h : RP w p zeroR) (hx : XZ w bx) (ho : Os w a A.e.ops) (hn : A.e.ops.length = n) (hl : (n + 2) * 56 ≤ 140737488355328) (hk : A.kd = 1) :
    Calls Try.prog 24 #[.pointer p, .pointer (some ⟨bx, 0, none⟩), A.val (.slice a n c)] w fun e' w' => e' = .returned (.bool true) ∧ Below w.heap.size w w' := by
  obtain ⟨kd, N, M, e⟩ := A
  have hk' : kd = 1 := hk
  clear hk
  subst hk'
  have HXF : Hid (∀ w', Below w.heap.size w w' → _) := fun w' hb => xFloor bx w' (hx.below hb)
  have HXL : Hid (∀ w', Below w.heap.size w w' → _) := fun w' hb => xLast bx w' (hx.below hb)
  have HNR : Hid (∀ w', _) := fun w' => near_any 0 0 ⟨1, N, M, e⟩ (.slice a n c) w' ⟨_, _, _, rfl⟩
  have HAP : Hid (∀ w' s v, Below w.heap.size w w' → _) := fun w' s v hb => append1_zero p bx ⟨s, v, e.k, e.se, e.rq, e.ops⟩ a c n w' (h.below hb) (hx.below hb) (ho.below hb) hn hl
  clear ho hn
  clear h hx
  go_enter Try.func24, Try.ntmps24
  go_wp2_with fail
  refine Calls.mono (HXL.out _ ((Below.refl _ _).alloc (Nat.le_refl _) _)) ?_
  rintro e' w1 ⟨rfl, hb1⟩
  have HB1 : Hid (Below w.heap.size w w1) := trans2 ((Below.refl _ _).alloc (Nat.le_refl _) _) hb1
  have HP1 : Hid (w1.heap[w.heap.size]? = some (.cells #[.int .i64 1, .int .i64 N, .int .i64 M, .int .i64 e.s, .int .i64 e.v, .int .i64 e.k, .int .i64 e.se, .int .i64 e.rq, .slice a n c] 55 (0, 0))) := kept_block hb1 (heap_alloc_new _ _)
  clear hb1
  go_wp2_with fail
  refine Calls.mono (HXF.out _ HB1.out) ?_
  rintro e' w2 ⟨rfl, hb2⟩
  have HB2 : Hid (Below w.heap.size w w2) := trans2 HB1.out hb2
  have HP2 : Hid (w2.heap[w.heap.size]? = some (.cells #[.int .i64 1, .int .i64 N, .int .i64 M, .int .i64 e.s, .int .i64 e.v, .int .i64 e.k, .int .i64 e.se, .int .i64 e.rq, .slice a n c] 55 (0, 0))) := kept_block hb2 HP1.out
  obtain ⟨t0, t1, t2, t3, t4, t5, t6, t7, t8⟩ := cells_9 HP2.out
  clear hb2 HP1
  go_wp2_with fail
  refine Calls.mono (HNR.out _) ?_
  rintro e' w3 ⟨s, v, rfl, hb⟩
  have HB3 : Hid (Below w.heap.size w w3) := trans2 HB2.out hb
  clear hb
  go_wp2_with fail
  refine Calls.mono (HAP.out _ s v (HB3.out.alloc HB3.out.size _)) ?_
  rintro e' w4 ⟨rfl, hb⟩
  have HB4 : Hid (Below w.heap.size w w4) := trans2 (HB3.out.alloc HB3.out.size _) hb
  clear hb
  go_wp2_with fail
  go_ret
  exact ⟨rfl, HB4.out⟩
set_option maxHeartbeats 3200000 in
set_option maxRecDepth 100000 in
theorem played_2 (p : Option Addr) (bx : Nat) (A : ActT) (a : Option Addr) (c n : Nat) (w : World) (h : RP w p zeroR) (hx : XZ w bx) (ho : Os w a A.e.ops) (hn : A.e.ops.length = n) (hl : (n + 2) * 56 ≤ 140737488355328) (hk : A.kd = 2) :
    Calls Try.prog 24 #[.pointer p, .pointer (some ⟨bx, 0, none⟩), A.val (.slice a n c)] w fun e' w' => e' = .returned (.bool true) ∧ Below w.heap.size w w' := by
  obtain ⟨kd, N, M, e⟩ := A
  have hk' : kd = 2 := hk
  clear hk
  subst hk'
  have HXF : Hid (∀ w', Below w.heap.size w w' → _) := fun w' hb => xFloor bx w' (hx.below hb)
  have HXL : Hid (∀ w', Below w.heap.size w w' → _) := fun w' hb => xLast bx w' (hx.below hb)
  have HAP : Hid (∀ w' s v, Below w.heap.size w w' → _) := fun w' s v hb => append1_zero p bx ⟨s, v, e.k, e.se, e.rq, e.ops⟩ a c n w' (h.below hb) (hx.below hb) (ho.below hb) hn hl
  clear ho hn
  clear h hx
  go_enter Try.func24, Try.ntmps24
  go_wp2_with fail
  refine Calls.mono (HXL.out _ ((Below.refl _ _).alloc (Nat.le_refl _) _)) ?_
  rintro e' w1 ⟨rfl, hb1⟩
  have HB1 : Hid (Below w.heap.size w w1) := trans2 ((Below.refl _ _).alloc (Nat.le_refl _) _) hb1
  have HP1 : Hid (w1.heap[w.heap.size]? = some (.cells #[.int .i64 2, .int .i64 N, .int .i64 M, .int .i64 e.s, .int .i64 e.v, .int .i64 e.k, .int .i64 e.se, .int .i64 e.rq, .slice a n c] 55 (0, 0))) := kept_block hb1 (heap_alloc_new _ _)
  clear hb1
  go_wp2_with fail
  refine Calls.mono (HXF.out _ HB1.out) ?_
  rintro e' w2 ⟨rfl, hb2⟩
  have HB2 : Hid (Below w.heap.size w w2) := trans2 HB1.out hb2
  have HP2 : Hid (w2.heap[w.heap.size]? = some (.cells #[.int .i64 2, .int .i64 N, .int .i64 M, .int .i64 e.s, .int .i64 e.v, .int .i64 e.k, .int .i64 e.se, .int .i64 e.rq, .slice a n c] 55 (0, 0))) := kept_block hb2 HP1.out
  obtain ⟨t0, t1, t2, t3, t4, t5, t6, t7, t8⟩ := cells_9 HP2.out
  clear hb2 HP1
  go_wp2_with fail
  refine Calls.mono (HAP.out _ e.s e.v HB2.out) ?_
  rintro e' w3 ⟨rfl, hb⟩
  have HB3 : Hid (Below w.heap.size w w3) := trans2 HB2.out hb
  clear hb
  go_wp2_with fail
  go_ret
  exact ⟨rfl, HB3.out⟩
set_option maxHeartbeats 3200000 in
set_option maxRecDepth 100000 in
theorem played_3 (p : Option Addr) (bx : Nat) (A : ActT) (a : Option Addr) (c n : Nat) (w : World) (h : RP w p zeroR) (hx : XZ w bx) (hk : A.kd = 3) :
    Calls Try.prog 24 #[.pointer p, .pointer (some ⟨bx, 0, none⟩), A.val (.slice a n c)] w fun e' w' => e' = .returned (.bool true) ∧ Below w.heap.size w w' := by
  obtain ⟨kd, N, M, e⟩ := A
  have hk' : kd = 3 := hk
  clear hk
  subst hk'
  have HXF : Hid (∀ w', Below w.heap.size w w' → _) := fun w' hb => xFloor bx w' (hx.below hb)
  have HXL : Hid (∀ w', Below w.heap.size w w' → _) := fun w' hb => xLast bx w' (hx.below hb)
  have HH : Hid (∀ w' m, Below w.heap.size w w' → _) := fun w' m hb => hold_zero p m w' (h.below hb)
  have HXH : Hid (∀ w' m, Below w.heap.size w w' → _) := fun w' m hb => xHold bx m w' (hx.below hb)
  have HXE : Hid (∀ w', Below w.heap.size w w' → _) := fun w' hb => xHeld bx w' (hx.below hb)
  clear h hx
  go_enter Try.func24, Try.ntmps24
  go_wp2_with fail
  refine Calls.mono (HXL.out _ ((Below.refl _ _).alloc (Nat.le_refl _) _)) ?_
  rintro e' w1 ⟨rfl, hb1⟩
  have HB1 : Hid (Below w.heap.size w w1) := trans2 ((Below.refl _ _).alloc (Nat.le_refl _) _) hb1
  have HP1 : Hid (w1.heap[w.heap.size]? = some (.cells #[.int .i64 3, .int .i64 N, .int .i64 M, .int .i64 e.s, .int .i64 e.v, .int .i64 e.k, .int .i64 e.se, .int .i64 e.rq, .slice a n c] 55 (0, 0))) := kept_block hb1 (heap_alloc_new _ _)
  clear hb1
  go_wp2_with fail
  refine Calls.mono (HXF.out _ HB1.out) ?_
  rintro e' w2 ⟨rfl, hb2⟩
  have HB2 : Hid (Below w.heap.size w w2) := trans2 HB1.out hb2
  have HP2 : Hid (w2.heap[w.heap.size]? = some (.cells #[.int .i64 3, .int .i64 N, .int .i64 M, .int .i64 e.s, .int .i64 e.v, .int .i64 e.k, .int .i64 e.se, .int .i64 e.rq, .slice a n c] 55 (0, 0))) := kept_block hb2 HP1.out
  obtain ⟨t0, t1, t2, t3, t4, t5, t6, t7, t8⟩ := cells_9 HP2.out
  clear hb2 HP1
  have hAl : w.heap.size < w2.heap.size := lt_of_blk HP2.out
  go_wp2_with fail
  go_region_held3 (fun w' => w'.cell? ⟨w.heap.size, 1, none⟩ = some (.int .i64 N)) (first | (simp only [World.cell?_drew, World.cell?_drewN, t1]; done) | fail)
    (first
    | (go_at_call 44; refine (HXH.out _ _ (by first | exact HB3.out | exact below_drewN HB3.out _ | exact below_drew HB3.out)).mono ?_
       rintro e' w4 ⟨rfl, hb4⟩
       have HB4 : Hid (Below w.heap.size w w4) := (by first | exact trans2 HB3.out hb4 | exact trans2 (below_drewN HB3.out _) hb4)
       have t1 : w4.cell? ⟨w.heap.size, 1, none⟩ = some (.int .i64 N) := by rw [hb4.cell (p := ⟨w.heap.size, 1, none⟩) hAl3]; exact t1
       clear hb4)
    | (go_at_call 16; refine (HH.out _ _ (by first | exact below_drewN HB2.out _ | exact below_drew HB2.out)).mono ?_
       rintro e' w3 ⟨rfl, hb3⟩
       have HB3 : Hid (Below w.heap.size w w3) := trans2 (below_drew HB2.out) hb3
       have t1 : w3.cell? ⟨w.heap.size, 1, none⟩ = some (.int .i64 N) := by rw [hb3.cell (p := ⟨w.heap.size, 1, none⟩) hAl]; exact t1
       have hAl3 : w.heap.size < w3.heap.size := Nat.lt_of_lt_of_le hAl hb3.size
       clear hb3)
    | (go_at_call 43; refine (HXE.out _ (by first | exact HB3.out | exact below_drewN HB3.out _ | exact below_drew HB3.out | exact below_drewN HB2.out _ | exact below_drew HB2.out | exact HB2.out)).mono ?_
       rintro e' w9 ⟨rfl, rfl⟩))
  go_wp2_with fail
  go_ret
  exact ⟨by simp, HB4.out⟩
set_option maxHeartbeats 3200000 in
set_option maxRecDepth 100000 in
theorem played_4 (p : Option Addr) (bx : Nat) (A : ActT) (a : Option Addr) (c n : Nat) (w : World) (h : RP w p zeroR) (hx : XZ w bx) (hk : A.kd = 4) :
    Calls Try.prog 24 #[.pointer p, .pointer (some ⟨bx, 0, none⟩), A.val (.slice a n c)] w fun e' w' => e' = .returned (.bool true) ∧ Below w.heap.size w w' := by
  obtain ⟨kd, N, M, e⟩ := A
  have hk' : kd = 4 := hk
  clear hk
  subst hk'
  have HXF : Hid (∀ w', Below w.heap.size w w' → _) := fun w' hb => xFloor bx w' (hx.below hb)
  have HXL : Hid (∀ w', Below w.heap.size w w' → _) := fun w' hb => xLast bx w' (hx.below hb)
  have HH : Hid (∀ w' m, Below w.heap.size w w' → _) := fun w' m hb => hold_zero p m w' (h.below hb)
  have HXH : Hid (∀ w' m, Below w.heap.size w w' → _) := fun w' m hb => xHold bx m w' (hx.below hb)
  clear h hx
  go_enter Try.func24, Try.ntmps24
  go_wp2_with fail
  refine Calls.mono (HXL.out _ ((Below.refl _ _).alloc (Nat.le_refl _) _)) ?_
  rintro e' w1 ⟨rfl, hb1⟩
  have HB1 : Hid (Below w.heap.size w w1) := trans2 ((Below.refl _ _).alloc (Nat.le_refl _) _) hb1
  have HP1 : Hid (w1.heap[w.heap.size]? = some (.cells #[.int .i64 4, .int .i64 N, .int .i64 M, .int .i64 e.s, .int .i64 e.v, .int .i64 e.k, .int .i64 e.se, .int .i64 e.rq, .slice a n c] 55 (0, 0))) := kept_block hb1 (heap_alloc_new _ _)
  clear hb1
  go_wp2_with fail
  refine Calls.mono (HXF.out _ HB1.out) ?_
  rintro e' w2 ⟨rfl, hb2⟩
  have HB2 : Hid (Below w.heap.size w w2) := trans2 HB1.out hb2
  have HP2 : Hid (w2.heap[w.heap.size]? = some (.cells #[.int .i64 4, .int .i64 N, .int .i64 M, .int .i64 e.s, .int .i64 e.v, .int .i64 e.k, .int .i64 e.se, .int .i64 e.rq, .slice a n c] 55 (0, 0))) := kept_block hb2 HP1.out
  obtain ⟨t0, t1, t2, t3, t4, t5, t6, t7, t8⟩ := cells_9 HP2.out
  clear hb2 HP1
  have hAl : w.heap.size < w2.heap.size := lt_of_blk HP2.out
  go_wp2_with fail
  go_region_held3 (fun w' => w'.cell? ⟨w.heap.size, 1, none⟩ = some (.int .i64 N)) (first | (simp only [World.cell?_drew, World.cell?_drewN, t1]; done) | fail)
    (first
    | (go_at_call 44; refine (HXH.out _ _ (by first | exact HB3.out | exact below_drewN HB3.out _ | exact below_drew HB3.out)).mono ?_
       rintro e' w4 ⟨rfl, hb4⟩
       have HB4 : Hid (Below w.heap.size w w4) := (by first | exact trans2 HB3.out hb4 | exact trans2 (below_drewN HB3.out _) hb4)
       have t1 : w4.cell? ⟨w.heap.size, 1, none⟩ = some (.int .i64 N) := by rw [hb4.cell (p := ⟨w.heap.size, 1, none⟩) hAl3]; exact t1
       clear hb4)
    | (go_at_call 16; refine (HH.out _ _ (by first | exact below_drewN HB2.out _ | exact below_drew HB2.out)).mono ?_
       rintro e' w3 ⟨rfl, hb3⟩
       have HB3 : Hid (Below w.heap.size w w3) := trans2 (below_drew HB2.out) hb3
       have t1 : w3.cell? ⟨w.heap.size, 1, none⟩ = some (.int .i64 N) := by rw [hb3.cell (p := ⟨w.heap.size, 1, none⟩) hAl]; exact t1
       have hAl3 : w.heap.size < w3.heap.size := Nat.lt_of_lt_of_le hAl hb3.size
       clear hb3))
  go_wp2_with fail
  go_ret
  exact ⟨by simp, HB4.out⟩
set_option maxHeartbeats 3200000 in
set_option maxRecDepth 100000 in
theorem played_5 (p : Option Addr) (bx : Nat) (A : ActT) (a : Option Addr) (c n : Nat) (w : World) (h : RP w p zeroR) (hx : XZ w bx) (hk : A.kd = 5) :
    Calls Try.prog 24 #[.pointer p, .pointer (some ⟨bx, 0, none⟩), A.val (.slice a n c)] w fun e' w' => e' = .returned (.bool true) ∧ Below w.heap.size w w' := by
  obtain ⟨kd, N, M, e⟩ := A
  have hk' : kd = 5 := hk
  clear hk
  subst hk'
  have HXF : Hid (∀ w', Below w.heap.size w w' → _) := fun w' hb => xFloor bx w' (hx.below hb)
  have HXL : Hid (∀ w', Below w.heap.size w w' → _) := fun w' hb => xLast bx w' (hx.below hb)
  have HH : Hid (∀ w' m, Below w.heap.size w w' → _) := fun w' m hb => cut_zero p m w' (h.below hb)
  have HXH : Hid (∀ w' m, Below w.heap.size w w' → _) := fun w' m hb => xCut bx m w' (hx.below hb)
  clear h hx
  go_enter Try.func24, Try.ntmps24
  go_wp2_with fail
  refine Calls.mono (HXL.out _ ((Below.refl _ _).alloc (Nat.le_refl _) _)) ?_
  rintro e' w1 ⟨rfl, hb1⟩
  have HB1 : Hid (Below w.heap.size w w1) := trans2 ((Below.refl _ _).alloc (Nat.le_refl _) _) hb1
  have HP1 : Hid (w1.heap[w.heap.size]? = some (.cells #[.int .i64 5, .int .i64 N, .int .i64 M, .int .i64 e.s, .int .i64 e.v, .int .i64 e.k, .int .i64 e.se, .int .i64 e.rq, .slice a n c] 55 (0, 0))) := kept_block hb1 (heap_alloc_new _ _)
  clear hb1
  go_wp2_with fail
  refine Calls.mono (HXF.out _ HB1.out) ?_
  rintro e' w2 ⟨rfl, hb2⟩
  have HB2 : Hid (Below w.heap.size w w2) := trans2 HB1.out hb2
  have HP2 : Hid (w2.heap[w.heap.size]? = some (.cells #[.int .i64 5, .int .i64 N, .int .i64 M, .int .i64 e.s, .int .i64 e.v, .int .i64 e.k, .int .i64 e.se, .int .i64 e.rq, .slice a n c] 55 (0, 0))) := kept_block hb2 HP1.out
  obtain ⟨t0, t1, t2, t3, t4, t5, t6, t7, t8⟩ := cells_9 HP2.out
  clear hb2 HP1
  have hAl : w.heap.size < w2.heap.size := lt_of_blk HP2.out
  go_wp2_with fail
  go_region_held3 (fun w' => w'.cell? ⟨w.heap.size, 1, none⟩ = some (.int .i64 N)) (first | (simp only [World.cell?_drew, World.cell?_drewN, t1]; done) | fail)
    (first
    | (go_at_call 45; refine (HXH.out _ _ (by first | exact HB3.out | exact below_drewN HB3.out _ | exact below_drew HB3.out)).mono ?_
       rintro e' w4 ⟨rfl, hb4⟩
       have HB4 : Hid (Below w.heap.size w w4) := (by first | exact trans2 HB3.out hb4 | exact trans2 (below_drewN HB3.out _) hb4)
       have t1 : w4.cell? ⟨w.heap.size, 1, none⟩ = some (.int .i64 N) := by rw [hb4.cell (p := ⟨w.heap.size, 1, none⟩) hAl3]; exact t1
       clear hb4)
    | (go_at_call 38; refine (HH.out _ _ (by first | exact below_drewN HB2.out _ | exact below_drew HB2.out)).mono ?_
       rintro e' w3 ⟨rfl, hb3⟩
       have HB3 : Hid (Below w.heap.size w w3) := trans2 (below_drew HB2.out) hb3
       have t1 : w3.cell? ⟨w.heap.size, 1, none⟩ = some (.int .i64 N) := by rw [hb3.cell (p := ⟨w.heap.size, 1, none⟩) hAl]; exact t1
       have hAl3 : w.heap.size < w3.heap.size := Nat.lt_of_lt_of_le hAl hb3.size
       clear hb3))
  go_wp2_with fail
  go_ret
  exact ⟨by simp, HB4.out⟩
set_option maxHeartbeats 3200000 in
set_option maxRecDepth 100000 in
theorem played_6 (p : Option Addr) (bx : Nat) (A : ActT) (a : Option Addr) (c n : Nat) (w : World) (h : RP w p zeroR) (hx : XZ w bx) (hk : A.kd = 6) :
    Calls Try.prog 24 #[.pointer p, .pointer (some ⟨bx, 0, none⟩), A.val (.slice a n c)] w fun e' w' => e' = .returned (.bool true) ∧ Below w.heap.size w w' := by
  obtain ⟨kd, N, M, e⟩ := A
  have hk' : kd = 6 := hk
  clear hk
  subst hk'
  have HXF : Hid (∀ w', Below w.heap.size w w' → _) := fun w' hb => xFloor bx w' (hx.below hb)
  have HXL : Hid (∀ w', Below w.heap.size w w' → _) := fun w' hb => xLast bx w' (hx.below hb)
  have HH : Hid (∀ w' m, Below w.heap.size w w' → _) := fun w' m hb => cut_zero p m w' (h.below hb)
  have HXH : Hid (∀ w' m, Below w.heap.size w w' → _) := fun w' m hb => xCut bx m w' (hx.below hb)
  clear h hx
  go_enter Try.func24, Try.ntmps24
  go_wp2_with fail
  refine Calls.mono (HXL.out _ ((Below.refl _ _).alloc (Nat.le_refl _) _)) ?_
  rintro e' w1 ⟨rfl, hb1⟩
  have HB1 : Hid (Below w.heap.size w w1) := trans2 ((Below.refl _ _).alloc (Nat.le_refl _) _) hb1
  have HP1 : Hid (w1.heap[w.heap.size]? = some (.cells #[.int .i64 6, .int .i64 N, .int .i64 M, .int .i64 e.s, .int .i64 e.v, .int .i64 e.k, .int .i64 e.se, .int .i64 e.rq, .slice a n c] 55 (0, 0))) := kept_block hb1 (heap_alloc_new _ _)
  clear hb1
  go_wp2_with fail
  refine Calls.mono (HXF.out _ HB1.out) ?_
  rintro e' w2 ⟨rfl, hb2⟩
  have HB2 : Hid (Below w.heap.size w w2) := trans2 HB1.out hb2
  have HP2 : Hid (w2.heap[w.heap.size]? = some (.cells #[.int .i64 6, .int .i64 N, .int .i64 M, .int .i64 e.s, .int .i64 e.v, .int .i64 e.k, .int .i64 e.se, .int .i64 e.rq, .slice a n c] 55 (0, 0))) := kept_block hb2 HP1.out
  obtain ⟨t0, t1, t2, t3, t4, t5, t6, t7, t8⟩ := cells_9 HP2.out
  clear hb2 HP1
  have hAl : w.heap.size < w2.heap.size := lt_of_blk HP2.out
  go_wp2_with fail
  go_region_held3 (fun w' => w'.cell? ⟨w.heap.size, 1, none⟩ = some (.int .i64 N)) (first | (simp only [World.cell?_drew, World.cell?_drewN, t1]; done) | fail)
    (first
    | (go_at_call 45; refine (HXH.out _ _ (by first | exact HB3.out | exact below_drewN HB3.out _ | exact below_drew HB3.out)).mono ?_
       rintro e' w4 ⟨rfl, hb4⟩
       have HB4 : Hid (Below w.heap.size w w4) := (by first | exact trans2 HB3.out hb4 | exact trans2 (below_drewN HB3.out _) hb4)
       have t1 : w4.cell? ⟨w.heap.size, 1, none⟩ = some (.int .i64 N) := by rw [hb4.cell (p := ⟨w.heap.size, 1, none⟩) hAl3]; exact t1
       clear hb4)
    | (go_at_call 38; refine (HH.out _ _ (by first | exact below_drewN HB2.out _ | exact below_drew HB2.out)).mono ?_
       rintro e' w3 ⟨rfl, hb3⟩
       have HB3 : Hid (Below w.heap.size w w3) := trans2 (below_drew HB2.out) hb3
       have t1 : w3.cell? ⟨w.heap.size, 1, none⟩ = some (.int .i64 N) := by rw [hb3.cell (p := ⟨w.heap.size, 1, none⟩) hAl]; exact t1
       have hAl3 : w.heap.size < w3.heap.size := Nat.lt_of_lt_of_le hAl hb3.size
       clear hb3))
  go_wp2_with fail
  go_ret
  exact ⟨by simp, HB4.out⟩
set_option maxHeartbeats 3200000 in
set_option maxRecDepth 100000 in
theorem played_7 (p : Option Addr) (bx : Nat) (A : ActT) (a : Option Addr) (c n : Nat) (w : World) (h : RP w p zeroR) (hx : XZ w bx) (hk : A.kd = 7) :
    Calls Try.prog 24 #[.pointer p, .pointer (some ⟨bx, 0, none⟩), A.val (.slice a n c)] w fun e' w' => e' = .returned (.bool true) ∧ Below w.heap.size w w' := by
  obtain ⟨kd, N, M, e⟩ := A
  have hk' : kd = 7 := hk
  clear hk
  subst hk'
  have HXF : Hid (∀ w', Below w.heap.size w w' → _) := fun w' hb => xFloor bx w' (hx.below hb)
  have HXL : Hid (∀ w', Below w.heap.size w w' → _) := fun w' hb => xLast bx w' (hx.below hb)
  have HAS : Hid (∀ w' m, Below w.heap.size w w' → _) := fun w' m hb => asked_zero p bx ⟨7, N, M, e⟩ (.slice a n c) m w' (h.below hb) (hx.below hb)
  clear h hx
  go_enter Try.func24, Try.ntmps24
  go_wp2_with fail
  refine Calls.mono (HXL.out _ ((Below.refl _ _).alloc (Nat.le_refl _) _)) ?_
  rintro e' w1 ⟨rfl, hb1⟩
  have HB1 : Hid (Below w.heap.size w w1) := trans2 ((Below.refl _ _).alloc (Nat.le_refl _) _) hb1
  have HP1 : Hid (w1.heap[w.heap.size]? = some (.cells #[.int .i64 7, .int .i64 N, .int .i64 M, .int .i64 e.s, .int .i64 e.v, .int .i64 e.k, .int .i64 e.se, .int .i64 e.rq, .slice a n c] 55 (0, 0))) := kept_block hb1 (heap_alloc_new _ _)
  clear hb1
  go_wp2_with fail
  refine Calls.mono (HXF.out _ HB1.out) ?_
  rintro e' w2 ⟨rfl, hb2⟩
  have HB2 : Hid (Below w.heap.size w w2) := trans2 HB1.out hb2
  have HP2 : Hid (w2.heap[w.heap.size]? = some (.cells #[.int .i64 7, .int .i64 N, .int .i64 M, .int .i64 e.s, .int .i64 e.v, .int .i64 e.k, .int .i64 e.se, .int .i64 e.rq, .slice a n c] 55 (0, 0))) := kept_block hb2 HP1.out
  obtain ⟨t0, t1, t2, t3, t4, t5, t6, t7, t8⟩ := cells_9 HP2.out
  clear hb2 HP1
  go_wp2_with fail
  refine Calls.mono (HAS.out _ _ HB2.out) ?_
  rintro e' w3 ⟨rfl, hb⟩
  have HB3 : Hid (Below w.heap.size w w3) := trans2 HB2.out hb
  clear hb
  go_wp2_with fail
  go_ret
  exact ⟨rfl, HB3.out⟩
set_option maxHeartbeats 3200000 in
set_option maxRecDepth 100000 in
theorem played_8 (p : Option Addr) (bx : Nat) (A : ActT) (a : Option Addr) (c n : Nat) (w : World) (h : RP w p zeroR) (hx : XZ w bx) (hk : A.kd = 8) :
    Calls Try.prog 24 #[.pointer p, .pointer (some ⟨bx, 0, none⟩), A.val (.slice a n c)] w fun e' w' => e' = .returned (.bool true) ∧ Below w.heap.size w w' := by
  obtain ⟨kd, N, M, e⟩ := A
  have hk' : kd = 8 := hk
  clear hk
  subst hk'
  have HXF : Hid (∀ w', Below w.heap.size w w' → _) := fun w' hb => xFloor bx w' (hx.below hb)
  have HXL : Hid (∀ w', Below w.heap.size w w' → _) := fun w' hb => xLast bx w' (hx.below hb)
  have HAS : Hid (∀ w' m, Below w.heap.size w w' → _) := fun w' m hb => asked_zero p bx ⟨8, N, M, e⟩ (.slice a n c) m w' (h.below hb) (hx.below hb)
  clear h hx
  go_enter Try.func24, Try.ntmps24
  go_wp2_with fail
  refine Calls.mono (HXL.out _ ((Below.refl _ _).alloc (Nat.le_refl _) _)) ?_
  rintro e' w1 ⟨rfl, hb1⟩
  have HB1 : Hid (Below w.heap.size w w1) := trans2 ((Below.refl _ _).alloc (Nat.le_refl _) _) hb1
  have HP1 : Hid (w1.heap[w.heap.size]? = some (.cells #[.int .i64 8, .int .i64 N, .int .i64 M, .int .i64 e.s, .int .i64 e.v, .int .i64 e.k, .int .i64 e.se, .int .i64 e.rq, .slice a n c] 55 (0, 0))) := kept_block hb1 (heap_alloc_new _ _)
  clear hb1
  go_wp2_with fail
  refine Calls.mono (HXF.out _ HB1.out) ?_
  rintro e' w2 ⟨rfl, hb2⟩
  have HB2 : Hid (Below w.heap.size w w2) := trans2 HB1.out hb2
  have HP2 : Hid (w2.heap[w.heap.size]? = some (.cells #[.int .i64 8, .int .i64 N, .int .i64 M, .int .i64 e.s, .int .i64 e.v, .int .i64 e.k, .int .i64 e.se, .int .i64 e.rq, .slice a n c] 55 (0, 0))) := kept_block hb2 HP1.out
  obtain ⟨t0, t1, t2, t3, t4, t5, t6, t7, t8⟩ := cells_9 HP2.out
  clear hb2 HP1
  go_wp2_with fail
  refine Calls.mono (HAS.out _ _ HB2.out) ?_
  rintro e' w3 ⟨rfl, hb⟩
  have HB3 : Hid (Below w.heap.size w w3) := trans2 HB2.out hb
  clear hb
  go_wp2_with fail
  go_ret
  exact ⟨rfl, HB3.out⟩
set_option maxHeartbeats 3200000 in
set_option maxRecDepth 100000 in
theorem played_9 (p : Option Addr) (bx : Nat) (A : ActT) (a : Option Addr) (c n : Nat) (w : World) (h : RP w p zeroR) (hx : XZ w bx) (hk : A.kd = 9) :
    Calls Try.prog 24 #[.pointer p, .pointer (some ⟨bx, 0, none⟩), A.val (.slice a n c)] w fun e' w' => e' = .returned (.bool true) ∧ Below w.heap.size w w' := by
  obtain ⟨kd, N, M, e⟩ := A
  have hk' : kd = 9 := hk
  clear hk
  subst hk'
  have HXF : Hid (∀ w', Below w.heap.size w w' → _) := fun w' hb => xFloor bx w' (hx.below hb)
  have HXL : Hid (∀ w', Below w.heap.size w w' → _) := fun w' hb => xLast bx w' (hx.below hb)
  have HAS : Hid (∀ w' m, Below w.heap.size w w' → _) := fun w' m hb => asked_zero p bx ⟨9, N, M, e⟩ (.slice a n c) m w' (h.below hb) (hx.below hb)
  clear h hx
  go_enter Try.func24, Try.ntmps24
  go_wp2_with fail
  refine Calls.mono (HXL.out _ ((Below.refl _ _).alloc (Nat.le_refl _) _)) ?_
  rintro e' w1 ⟨rfl, hb1⟩
  have HB1 : Hid (Below w.heap.size w w1) := trans2 ((Below.refl _ _).alloc (Nat.le_refl _) _) hb1
  have HP1 : Hid (w1.heap[w.heap.size]? = some (.cells #[.int .i64 9, .int .i64 N, .int .i64 M, .int .i64 e.s, .int .i64 e.v, .int .i64 e.k, .int .i64 e.se, .int .i64 e.rq, .slice a n c] 55 (0, 0))) := kept_block hb1 (heap_alloc_new _ _)
  clear hb1
  go_wp2_with fail
  refine Calls.mono (HXF.out _ HB1.out) ?_
  rintro e' w2 ⟨rfl, hb2⟩
  have HB2 : Hid (Below w.heap.size w w2) := trans2 HB1.out hb2
  have HP2 : Hid (w2.heap[w.heap.size]? = some (.cells #[.int .i64 9, .int .i64 N, .int .i64 M, .int .i64 e.s, .int .i64 e.v, .int .i64 e.k, .int .i64 e.se, .int .i64 e.rq, .slice a n c] 55 (0, 0))) := kept_block hb2 HP1.out
  obtain ⟨t0, t1, t2, t3, t4, t5, t6, t7, t8⟩ := cells_9 HP2.out
  clear hb2 HP1
  go_wp2_with fail
  refine Calls.mono (HAS.out _ _ HB2.out) ?_
  rintro e' w3 ⟨rfl, hb⟩
  have HB3 : Hid (Below w.heap.size w w3) := trans2 HB2.out hb
  clear hb
  go_wp2_with fail
  go_ret
  exact ⟨rfl, HB3.out⟩
set_option maxHeartbeats 3200000 in
set_option maxRecDepth 100000 in
theorem played_10 (p : Option Addr) (bx : Nat) (A : ActT) (a : Option Addr) (c n : Nat) (w : World) (h : RP w p zeroR) (hx : XZ w bx) (hk : A.kd = 10) :
    Calls Try.prog 24 #[.pointer p, .pointer (some ⟨bx, 0, none⟩), A.val (.slice a n c)] w fun e' w' => e' = .returned (.bool true) ∧ Below w.heap.size w w' := by
  obtain ⟨kd, N, M, e⟩ := A
  have hk' : kd = 10 := hk
  clear hk
  subst hk'
  have HXF : Hid (∀ w', Below w.heap.size w w' → _) := fun w' hb => xFloor bx w' (hx.below hb)
  have HXL : Hid (∀ w', Below w.heap.size w w' → _) := fun w' hb => xLast bx w' (hx.below hb)
  have HAS : Hid (∀ w' m, Below w.heap.size w w' → _) := fun w' m hb => asked_zero p bx ⟨10, N, M, e⟩ (.slice a n c) m w' (h.below hb) (hx.below hb)
  clear h hx
  go_enter Try.func24, Try.ntmps24
  go_wp2_with fail
  refine Calls.mono (HXL.out _ ((Below.refl _ _).alloc (Nat.le_refl _) _)) ?_
  rintro e' w1 ⟨rfl, hb1⟩
  have HB1 : Hid (Below w.heap.size w w1) := trans2 ((Below.refl _ _).alloc (Nat.le_refl _) _) hb1
  have HP1 : Hid (w1.heap[w.heap.size]? = some (.cells #[.int .i64 10, .int .i64 N, .int .i64 M, .int .i64 e.s, .int .i64 e.v, .int .i64 e.k, .int .i64 e.se, .int .i64 e.rq, .slice a n c] 55 (0, 0))) := kept_block hb1 (heap_alloc_new _ _)
  clear hb1
  go_wp2_with fail
  refine Calls.mono (HXF.out _ HB1.out) ?_
  rintro e' w2 ⟨rfl, hb2⟩
  have HB2 : Hid (Below w.heap.size w w2) := trans2 HB1.out hb2
  have HP2 : Hid (w2.heap[w.heap.size]? = some (.cells #[.int .i64 10, .int .i64 N, .int .i64 M, .int .i64 e.s, .int .i64 e.v, .int .i64 e.k, .int .i64 e.se, .int .i64 e.rq, .slice a n c] 55 (0, 0))) := kept_block hb2 HP1.out
  obtain ⟨t0, t1, t2, t3, t4, t5, t6, t7, t8⟩ := cells_9 HP2.out
  clear hb2 HP1
  go_wp2_with fail
  refine Calls.mono (HAS.out _ _ HB2.out) ?_
  rintro e' w3 ⟨rfl, hb⟩
  have HB3 : Hid (Below w.heap.size w w3) := trans2 HB2.out hb
  clear hb
  go_wp2_with fail
  go_ret
  exact ⟨rfl, HB3.out⟩
set_option maxHeartbeats 3200000 in
set_option maxRecDepth 100000 in
theorem played_11 (p : Option Addr) (bx : Nat) (A : ActT) (a : Option Addr) (c n : Nat) (w : World) (h : RP w p zeroR) (hx : XZ w bx) (hk : A.kd = 11) :
    Calls Try.prog 24 #[.pointer p, .pointer (some ⟨bx, 0, none⟩), A.val (.slice a n c)] w fun e' w' => e' = .returned (.bool true) ∧ Below w.heap.size w w' := by
  obtain ⟨kd, N, M, e⟩ := A
  have hk' : kd = 11 := hk
  clear hk
  subst hk'
  have HXF : Hid (∀ w', Below w.heap.size w w' → _) := fun w' hb => xFloor bx w' (hx.below hb)
  have HXL : Hid (∀ w', Below w.heap.size w w' → _) := fun w' hb => xLast bx w' (hx.below hb)
  have HAS : Hid (∀ w' m, Below w.heap.size w w' → _) := fun w' m hb => asked_zero p bx ⟨11, N, M, e⟩ (.slice a n c) m w' (h.below hb) (hx.below hb)
  clear h hx
  go_enter Try.func24, Try.ntmps24
  go_wp2_with fail
  refine Calls.mono (HXL.out _ ((Below.refl _ _).alloc (Nat.le_refl _) _)) ?_
  rintro e' w1 ⟨rfl, hb1⟩
  have HB1 : Hid (Below w.heap.size w w1) := trans2 ((Below.refl _ _).alloc (Nat.le_refl _) _) hb1
  have HP1 : Hid (w1.heap[w.heap.size]? = some (.cells #[.int .i64 11, .int .i64 N, .int .i64 M, .int .i64 e.s, .int .i64 e.v, .int .i64 e.k, .int .i64 e.se, .int .i64 e.rq, .slice a n c] 55 (0, 0))) := kept_block hb1 (heap_alloc_new _ _)
  clear hb1
  go_wp2_with fail
  refine Calls.mono (HXF.out _ HB1.out) ?_
  rintro e' w2 ⟨rfl, hb2⟩
  have HB2 : Hid (Below w.heap.size w w2) := trans2 HB1.out hb2
  have HP2 : Hid (w2.heap[w.heap.size]? = some (.cells #[.int .i64 11, .int .i64 N, .int .i64 M, .int .i64 e.s, .int .i64 e.v, .int .i64 e.k, .int .i64 e.se, .int .i64 e.rq, .slice a n c] 55 (0, 0))) := kept_block hb2 HP1.out
  obtain ⟨t0, t1, t2, t3, t4, t5, t6, t7, t8⟩ := cells_9 HP2.out
  clear hb2 HP1
  go_wp2_with fail
  refine Calls.mono (HAS.out _ _ HB2.out) ?_
  rintro e' w3 ⟨rfl, hb⟩
  have HB3 : Hid (Below w.heap.size w w3) := trans2 HB2.out hb
  clear hb
  go_wp2_with fail
  go_ret
  exact ⟨rfl, HB3.out⟩
set_option maxHeartbeats 3200000 in
set_option maxRecDepth 100000 in
theorem played_12 (p : Option Addr) (bx : Nat) (A : ActT) (a : Option Addr) (c n : Nat) (w : World) (h : RP w p zeroR) (hx : XZ w bx) (hk : A.kd = 12) :
    Calls Try.prog 24 #[.pointer p, .pointer (some ⟨bx, 0, none⟩), A.val (.slice a n c)] w fun e' w' => e' = .returned (.bool true) ∧ Below w.heap.size w w' := by
  obtain ⟨kd, N, M, e⟩ := A
  have hk' : kd = 12 := hk
  clear hk
  subst hk'
  have HXF : Hid (∀ w', Below w.heap.size w w' → _) := fun w' hb => xFloor bx w' (hx.below hb)
  have HXL : Hid (∀ w', Below w.heap.size w w' → _) := fun w' hb => xLast bx w' (hx.below hb)
  have HAS : Hid (∀ w' m, Below w.heap.size w w' → _) := fun w' m hb => asked_zero p bx ⟨12, N, M, e⟩ (.slice a n c) m w' (h.below hb) (hx.below hb)
  clear h hx
  go_enter Try.func24, Try.ntmps24
  go_wp2_with fail
  refine Calls.mono (HXL.out _ ((Below.refl _ _).alloc (Nat.le_refl _) _)) ?_
  rintro e' w1 ⟨rfl, hb1⟩
  have HB1 : Hid (Below w.heap.size w w1) := trans2 ((Below.refl _ _).alloc (Nat.le_refl _) _) hb1
  have HP1 : Hid (w1.heap[w.heap.size]? = some (.cells #[.int .i64 12, .int .i64 N, .int .i64 M, .int .i64 e.s, .int .i64 e.v, .int .i64 e.k, .int .i64 e.se, .int .i64 e.rq, .slice a n c] 55 (0, 0))) := kept_block hb1 (heap_alloc_new _ _)
  clear hb1
  go_wp2_with fail
  refine Calls.mono (HXF.out _ HB1.out) ?_
  rintro e' w2 ⟨rfl, hb2⟩
  have HB2 : Hid (Below w.heap.size w w2) := trans2 HB1.out hb2
  have HP2 : Hid (w2.heap[w.heap.size]? = some (.cells #[.int .i64 12, .int .i64 N, .int .i64 M, .int .i64 e.s, .int .i64 e.v, .int .i64 e.k, .int .i64 e.se, .int .i64 e.rq, .slice a n c] 55 (0, 0))) := kept_block hb2 HP1.out
  obtain ⟨t0, t1, t2, t3, t4, t5, t6, t7, t8⟩ := cells_9 HP2.out
  clear hb2 HP1
  go_wp2_with fail
  refine Calls.mono (HAS.out _ _ HB2.out) ?_
  rintro e' w3 ⟨rfl, hb⟩
  have HB3 : Hid (Below w.heap.size w w3) := trans2 HB2.out hb
  clear hb
  go_wp2_with fail
  go_ret
  exact ⟨rfl, HB3.out⟩
set_option maxHeartbeats 3200000 in
set_option maxRecDepth 100000 in
theorem played_else (p : Option Addr) (bx : Nat) (A : ActT) (a : Option Addr) (c n : Nat) (w : World) (h : RP w p zeroR) (hx : XZ w bx) (k1 : A.kd ≠ 1) (k2 : A.kd ≠ 2) (k3 : A.kd ≠ 3) (k4 : A.kd ≠ 4) (k5 : A.kd ≠ 5) (k6 : A.kd ≠ 6) (k7 : A.kd ≠ 7) (k8 : A.kd ≠ 8) (k9 : A.kd ≠ 9) (k10 : A.kd ≠ 10) (k11 : A.kd ≠ 11) (k12 : A.kd ≠ 12) :
    Calls Try.prog 24 #[.pointer p, .pointer (some ⟨bx, 0, none⟩), A.val (.slice a n c)] w fun e' w' => e' = .returned (.bool true) ∧ Below w.heap.size w w' := by
  obtain ⟨kd, N, M, e⟩ := A
  have j1 : (kd == 1) = false := by simpa using k1
  have j2 : (kd == 2) = false := by simpa using k2
  have j3 : (kd == 3) = false := by simpa using k3
  have j4 : (kd == 4) = false := by simpa using k4
  have j5 : (kd == 5) = false := by simpa using k5
  have j6 : (kd == 6) = false := by simpa using k6
  have j7 : (kd == 7) = false := by simpa using k7
  have j8 : (kd == 8) = false := by simpa using k8
  have j9 : (kd == 9) = false := by simpa using k9
  have j10 : (kd == 10) = false := by simpa using k10
  have j11 : (kd == 11) = false := by simpa using k11
  have j12 : (kd == 12) = false := by simpa using k12
  clear k1 k2 k3 k4 k5 k6 k7 k8 k9 k10 k11 k12
  have HXF : Hid (∀ w', Below w.heap.size w w' → _) := fun w' hb => xFloor bx w' (hx.below hb)
  have HXL : Hid (∀ w', Below w.heap.size w w' → _) := fun w' hb => xLast bx w' (hx.below hb)
  clear h hx
  go_enter Try.func24, Try.ntmps24
  go_wp2_with fail
  refine Calls.mono (HXL.out _ ((Below.refl _ _).alloc (Nat.le_refl _) _)) ?_
  rintro e' w1 ⟨rfl, hb1⟩
  have HB1 : Hid (Below w.heap.size w w1) := trans2 ((Below.refl _ _).alloc (Nat.le_refl _) _) hb1
  have HP1 : Hid (w1.heap[w.heap.size]? = some (.cells #[.int .i64 kd, .int .i64 N, .int .i64 M, .int .i64 e.s, .int .i64 e.v, .int .i64 e.k, .int .i64 e.se, .int .i64 e.rq, .slice a n c] 55 (0, 0))) := kept_block hb1 (heap_alloc_new _ _)
  clear hb1
  go_wp2_with fail
  refine Calls.mono (HXF.out _ HB1.out) ?_
  rintro e' w2 ⟨rfl, hb2⟩
  have HB2 : Hid (Below w.heap.size w w2) := trans2 HB1.out hb2
  have HP2 : Hid (w2.heap[w.heap.size]? = some (.cells #[.int .i64 kd, .int .i64 N, .int .i64 M, .int .i64 e.s, .int .i64 e.v, .int .i64 e.k, .int .i64 e.se, .int .i64 e.rq, .slice a n c] 55 (0, 0))) := kept_block hb2 HP1.out
  obtain ⟨t0, t1, t2, t3, t4, t5, t6, t7, t8⟩ := cells_9 HP2.out
  clear hb2 HP1
  go_wp2_with fail
  go_ret
  exact ⟨rfl, HB2.out⟩
end Go.Proofs.Ytonppfnjeomcoaa
