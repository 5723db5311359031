/-
  played: what is asked, at any ring.
-/
import Derived.Test.YtonppfnjeomcoaaRPlayG
namespace Go.Proofs.Ytonppfnjeomcoaa
open Go.RowKit Classical
set_option linter.unusedVariables false
set_option linter.unusedSimpArgs false

set_option maxHeartbeats 3200000 in
set_option maxRecDepth 100000 in
theorem played_7G {w0 : World} (b bx : Nat) (A : ActT) (a : Option Addr) (c n : Nat) (w : World) {R : RingT} {F : Nat} {O : Int} {H : List EnT} {P : List PEnt} {la : Option Addr} {lc : Nat} (h : RingAt w b R) (hx : RefAt w0 w bx R F O H P la lc) (hk : A.kd = 7) :
    Calls Try.prog 24 #[.pointer (some ⟨b, 0, none⟩), .pointer (some ⟨bx, 0, none⟩), A.val (.slice a n c)] w fun e' w' => e' = .returned (.bool true) ∧ Below w.heap.size w w' := by
  obtain ⟨kd, N, M, e⟩ := A
  have hk' : kd = 7 := hk
  clear hk
  subst hk'
  have HXF : Hid (∀ w', Below w.heap.size w w' → _) := fun w' hb => rFloor w' bx (hx.below hb)
  have HXL : Hid (∀ w', Below w.heap.size w w' → _) := fun w' hb => rLast w' bx (hx.below hb)
  have HAS : Hid (∀ w' m, Below w.heap.size w w' → _) := fun w' m hb => askedG b bx ⟨7, N, M, e⟩ (.slice a n c) m w' (h.below hb) (hx.below hb)
  obtain ⟨L, hL⟩ : ∃ L : Int, ((R.last : Nat) : Int) = L := ⟨_, rfl⟩
  obtain ⟨T, hT⟩ : ∃ T : Int, R.top = T := ⟨_, rfl⟩
  obtain ⟨fl, hfl⟩ : ∃ fl : Int, (R.floor : Int) = fl := ⟨_, rfl⟩
  obtain ⟨of, hof⟩ : ∃ of : Int, R.of = of := ⟨_, rfl⟩
  rw [hL, hT] at HXL
  rw [hfl, hof] at HXF
  clear h hx hL hT hfl hof
  go_enter Try.func24, Try.ntmps24
  go_wp2_with fail
  refine Calls.mono (HXL.out _ ((Below.refl _ _).alloc (Nat.le_refl _) _)) ?_
  rintro e' w1 ⟨rfl, hb1⟩
  have HB1 : Hid (Below w.heap.size w w1) := trans2 ((Below.refl _ _).alloc (Nat.le_refl _) _) hb1
  have HP1 : Hid (w1.heap[w.heap.size]? = some (.cells #[.int .i64 7, .int .i64 N, .int .i64 M, .int .i64 e.s, .int .i64 e.v, .int .i64 e.k, .int .i64 e.se, .int .i64 e.rq, .slice a n c] 55 (0, 0))) := kept_block hb1 (heap_alloc_new _ _)
  clear hb1
  go_wp2_with fail
  refine Calls.mono (HXF.out _ HB1.out) ?_
  rintro e' w2 ⟨rfl, hb2⟩
  have HB2 : Hid (Below w.heap.size w w2) := trans2 HB1.out hb2
  have HP2 : Hid (w2.heap[w.heap.size]? = some (.cells #[.int .i64 7, .int .i64 N, .int .i64 M, .int .i64 e.s, .int .i64 e.v, .int .i64 e.k, .int .i64 e.se, .int .i64 e.rq, .slice a n c] 55 (0, 0))) := kept_block hb2 HP1.out
  obtain ⟨t0, t1, t2, t3, t4, t5, t6, t7, t8⟩ := cells_9 HP2.out
  clear hb2 HP1
  go_wp2_with fail
  refine Calls.mono (HAS.out _ _ HB2.out) ?_
  rintro e' w3 ⟨rfl, hb⟩
  have HB3 : Hid (Below w.heap.size w w3) := trans2 HB2.out hb
  clear hb
  go_wp2_with fail
  go_ret
  exact ⟨rfl, HB3.out⟩
set_option maxHeartbeats 3200000 in
set_option maxRecDepth 100000 in
theorem played_8G {w0 : World} (b bx : Nat) (A : ActT) (a : Option Addr) (c n : Nat) (w : World) {R : RingT} {F : Nat} {O : Int} {H : List EnT} {P : List PEnt} {la : Option Addr} {lc : Nat} (h : RingAt w b R) (hx : RefAt w0 w bx R F O H P la lc) (hk : A.kd = 8) :
    Calls Try.prog 24 #[.pointer (some ⟨b, 0, none⟩), .pointer (some ⟨bx, 0, none⟩), A.val (.slice a n c)] w fun e' w' => e' = .returned (.bool true) ∧ Below w.heap.size w w' := by
  obtain ⟨kd, N, M, e⟩ := A
  have hk' : kd = 8 := hk
  clear hk
  subst hk'
  have HXF : Hid (∀ w', Below w.heap.size w w' → _) := fun w' hb => rFloor w' bx (hx.below hb)
  have HXL : Hid (∀ w', Below w.heap.size w w' → _) := fun w' hb => rLast w' bx (hx.below hb)
  have HAS : Hid (∀ w' m, Below w.heap.size w w' → _) := fun w' m hb => askedG b bx ⟨8, N, M, e⟩ (.slice a n c) m w' (h.below hb) (hx.below hb)
  obtain ⟨L, hL⟩ : ∃ L : Int, ((R.last : Nat) : Int) = L := ⟨_, rfl⟩
  obtain ⟨T, hT⟩ : ∃ T : Int, R.top = T := ⟨_, rfl⟩
  obtain ⟨fl, hfl⟩ : ∃ fl : Int, (R.floor : Int) = fl := ⟨_, rfl⟩
  obtain ⟨of, hof⟩ : ∃ of : Int, R.of = of := ⟨_, rfl⟩
  rw [hL, hT] at HXL
  rw [hfl, hof] at HXF
  clear h hx hL hT hfl hof
  go_enter Try.func24, Try.ntmps24
  go_wp2_with fail
  refine Calls.mono (HXL.out _ ((Below.refl _ _).alloc (Nat.le_refl _) _)) ?_
  rintro e' w1 ⟨rfl, hb1⟩
  have HB1 : Hid (Below w.heap.size w w1) := trans2 ((Below.refl _ _).alloc (Nat.le_refl _) _) hb1
  have HP1 : Hid (w1.heap[w.heap.size]? = some (.cells #[.int .i64 8, .int .i64 N, .int .i64 M, .int .i64 e.s, .int .i64 e.v, .int .i64 e.k, .int .i64 e.se, .int .i64 e.rq, .slice a n c] 55 (0, 0))) := kept_block hb1 (heap_alloc_new _ _)
  clear hb1
  go_wp2_with fail
  refine Calls.mono (HXF.out _ HB1.out) ?_
  rintro e' w2 ⟨rfl, hb2⟩
  have HB2 : Hid (Below w.heap.size w w2) := trans2 HB1.out hb2
  have HP2 : Hid (w2.heap[w.heap.size]? = some (.cells #[.int .i64 8, .int .i64 N, .int .i64 M, .int .i64 e.s, .int .i64 e.v, .int .i64 e.k, .int .i64 e.se, .int .i64 e.rq, .slice a n c] 55 (0, 0))) := kept_block hb2 HP1.out
  obtain ⟨t0, t1, t2, t3, t4, t5, t6, t7, t8⟩ := cells_9 HP2.out
  clear hb2 HP1
  go_wp2_with fail
  refine Calls.mono (HAS.out _ _ HB2.out) ?_
  rintro e' w3 ⟨rfl, hb⟩
  have HB3 : Hid (Below w.heap.size w w3) := trans2 HB2.out hb
  clear hb
  go_wp2_with fail
  go_ret
  exact ⟨rfl, HB3.out⟩
set_option maxHeartbeats 3200000 in
set_option maxRecDepth 100000 in
theorem played_9G {w0 : World} (b bx : Nat) (A : ActT) (a : Option Addr) (c n : Nat) (w : World) {R : RingT} {F : Nat} {O : Int} {H : List EnT} {P : List PEnt} {la : Option Addr} {lc : Nat} (h : RingAt w b R) (hx : RefAt w0 w bx R F O H P la lc) (hk : A.kd = 9) :
    Calls Try.prog 24 #[.pointer (some ⟨b, 0, none⟩), .pointer (some ⟨bx, 0, none⟩), A.val (.slice a n c)] w fun e' w' => e' = .returned (.bool true) ∧ Below w.heap.size w w' := by
  obtain ⟨kd, N, M, e⟩ := A
  have hk' : kd = 9 := hk
  clear hk
  subst hk'
  have HXF : Hid (∀ w', Below w.heap.size w w' → _) := fun w' hb => rFloor w' bx (hx.below hb)
  have HXL : Hid (∀ w', Below w.heap.size w w' → _) := fun w' hb => rLast w' bx (hx.below hb)
  have HAS : Hid (∀ w' m, Below w.heap.size w w' → _) := fun w' m hb => askedG b bx ⟨9, N, M, e⟩ (.slice a n c) m w' (h.below hb) (hx.below hb)
  obtain ⟨L, hL⟩ : ∃ L : Int, ((R.last : Nat) : Int) = L := ⟨_, rfl⟩
  obtain ⟨T, hT⟩ : ∃ T : Int, R.top = T := ⟨_, rfl⟩
  obtain ⟨fl, hfl⟩ : ∃ fl : Int, (R.floor : Int) = fl := ⟨_, rfl⟩
  obtain ⟨of, hof⟩ : ∃ of : Int, R.of = of := ⟨_, rfl⟩
  rw [hL, hT] at HXL
  rw [hfl, hof] at HXF
  clear h hx hL hT hfl hof
  go_enter Try.func24, Try.ntmps24
  go_wp2_with fail
  refine Calls.mono (HXL.out _ ((Below.refl _ _).alloc (Nat.le_refl _) _)) ?_
  rintro e' w1 ⟨rfl, hb1⟩
  have HB1 : Hid (Below w.heap.size w w1) := trans2 ((Below.refl _ _).alloc (Nat.le_refl _) _) hb1
  have HP1 : Hid (w1.heap[w.heap.size]? = some (.cells #[.int .i64 9, .int .i64 N, .int .i64 M, .int .i64 e.s, .int .i64 e.v, .int .i64 e.k, .int .i64 e.se, .int .i64 e.rq, .slice a n c] 55 (0, 0))) := kept_block hb1 (heap_alloc_new _ _)
  clear hb1
  go_wp2_with fail
  refine Calls.mono (HXF.out _ HB1.out) ?_
  rintro e' w2 ⟨rfl, hb2⟩
  have HB2 : Hid (Below w.heap.size w w2) := trans2 HB1.out hb2
  have HP2 : Hid (w2.heap[w.heap.size]? = some (.cells #[.int .i64 9, .int .i64 N, .int .i64 M, .int .i64 e.s, .int .i64 e.v, .int .i64 e.k, .int .i64 e.se, .int .i64 e.rq, .slice a n c] 55 (0, 0))) := kept_block hb2 HP1.out
  obtain ⟨t0, t1, t2, t3, t4, t5, t6, t7, t8⟩ := cells_9 HP2.out
  clear hb2 HP1
  go_wp2_with fail
  refine Calls.mono (HAS.out _ _ HB2.out) ?_
  rintro e' w3 ⟨rfl, hb⟩
  have HB3 : Hid (Below w.heap.size w w3) := trans2 HB2.out hb
  clear hb
  go_wp2_with fail
  go_ret
  exact ⟨rfl, HB3.out⟩
set_option maxHeartbeats 3200000 in
set_option maxRecDepth 100000 in
theorem played_10G {w0 : World} (b bx : Nat) (A : ActT) (a : Option Addr) (c n : Nat) (w : World) {R : RingT} {F : Nat} {O : Int} {H : List EnT} {P : List PEnt} {la : Option Addr} {lc : Nat} (h : RingAt w b R) (hx : RefAt w0 w bx R F O H P la lc) (hk : A.kd = 10) :
    Calls Try.prog 24 #[.pointer (some ⟨b, 0, none⟩), .pointer (some ⟨bx, 0, none⟩), A.val (.slice a n c)] w fun e' w' => e' = .returned (.bool true) ∧ Below w.heap.size w w' := by
  obtain ⟨kd, N, M, e⟩ := A
  have hk' : kd = 10 := hk
  clear hk
  subst hk'
  have HXF : Hid (∀ w', Below w.heap.size w w' → _) := fun w' hb => rFloor w' bx (hx.below hb)
  have HXL : Hid (∀ w', Below w.heap.size w w' → _) := fun w' hb => rLast w' bx (hx.below hb)
  have HAS : Hid (∀ w' m, Below w.heap.size w w' → _) := fun w' m hb => askedG b bx ⟨10, N, M, e⟩ (.slice a n c) m w' (h.below hb) (hx.below hb)
  obtain ⟨L, hL⟩ : ∃ L : Int, ((R.last : Nat) : Int) = L := ⟨_, rfl⟩
  obtain ⟨T, hT⟩ : ∃ T : Int, R.top = T := ⟨_, rfl⟩
  obtain ⟨fl, hfl⟩ : ∃ fl : Int, (R.floor : Int) = fl := ⟨_, rfl⟩
  obtain ⟨of, hof⟩ : ∃ of : Int, R.of = of := ⟨_, rfl⟩
  rw [hL, hT] at HXL
  rw [hfl, hof] at HXF
  clear h hx hL hT hfl hof
  go_enter Try.func24, Try.ntmps24
  go_wp2_with fail
  refine Calls.mono (HXL.out _ ((Below.refl _ _).alloc (Nat.le_refl _) _)) ?_
  rintro e' w1 ⟨rfl, hb1⟩
  have HB1 : Hid (Below w.heap.size w w1) := trans2 ((Below.refl _ _).alloc (Nat.le_refl _) _) hb1
  have HP1 : Hid (w1.heap[w.heap.size]? = some (.cells #[.int .i64 10, .int .i64 N, .int .i64 M, .int .i64 e.s, .int .i64 e.v, .int .i64 e.k, .int .i64 e.se, .int .i64 e.rq, .slice a n c] 55 (0, 0))) := kept_block hb1 (heap_alloc_new _ _)
  clear hb1
  go_wp2_with fail
  refine Calls.mono (HXF.out _ HB1.out) ?_
  rintro e' w2 ⟨rfl, hb2⟩
  have HB2 : Hid (Below w.heap.size w w2) := trans2 HB1.out hb2
  have HP2 : Hid (w2.heap[w.heap.size]? = some (.cells #[.int .i64 10, .int .i64 N, .int .i64 M, .int .i64 e.s, .int .i64 e.v, .int .i64 e.k, .int .i64 e.se, .int .i64 e.rq, .slice a n c] 55 (0, 0))) := kept_block hb2 HP1.out
  obtain ⟨t0, t1, t2, t3, t4, t5, t6, t7, t8⟩ := cells_9 HP2.out
  clear hb2 HP1
  go_wp2_with fail
  refine Calls.mono (HAS.out _ _ HB2.out) ?_
  rintro e' w3 ⟨rfl, hb⟩
  have HB3 : Hid (Below w.heap.size w w3) := trans2 HB2.out hb
  clear hb
  go_wp2_with fail
  go_ret
  exact ⟨rfl, HB3.out⟩
set_option maxHeartbeats 3200000 in
set_option maxRecDepth 100000 in
theorem played_11G {w0 : World} (b bx : Nat) (A : ActT) (a : Option Addr) (c n : Nat) (w : World) {R : RingT} {F : Nat} {O : Int} {H : List EnT} {P : List PEnt} {la : Option Addr} {lc : Nat} (h : RingAt w b R) (hx : RefAt w0 w bx R F O H P la lc) (hk : A.kd = 11) :
    Calls Try.prog 24 #[.pointer (some ⟨b, 0, none⟩), .pointer (some ⟨bx, 0, none⟩), A.val (.slice a n c)] w fun e' w' => e' = .returned (.bool true) ∧ Below w.heap.size w w' := by
  obtain ⟨kd, N, M, e⟩ := A
  have hk' : kd = 11 := hk
  clear hk
  subst hk'
  have HXF : Hid (∀ w', Below w.heap.size w w' → _) := fun w' hb => rFloor w' bx (hx.below hb)
  have HXL : Hid (∀ w', Below w.heap.size w w' → _) := fun w' hb => rLast w' bx (hx.below hb)
  have HAS : Hid (∀ w' m, Below w.heap.size w w' → _) := fun w' m hb => askedG b bx ⟨11, N, M, e⟩ (.slice a n c) m w' (h.below hb) (hx.below hb)
  obtain ⟨L, hL⟩ : ∃ L : Int, ((R.last : Nat) : Int) = L := ⟨_, rfl⟩
  obtain ⟨T, hT⟩ : ∃ T : Int, R.top = T := ⟨_, rfl⟩
  obtain ⟨fl, hfl⟩ : ∃ fl : Int, (R.floor : Int) = fl := ⟨_, rfl⟩
  obtain ⟨of, hof⟩ : ∃ of : Int, R.of = of := ⟨_, rfl⟩
  rw [hL, hT] at HXL
  rw [hfl, hof] at HXF
  clear h hx hL hT hfl hof
  go_enter Try.func24, Try.ntmps24
  go_wp2_with fail
  refine Calls.mono (HXL.out _ ((Below.refl _ _).alloc (Nat.le_refl _) _)) ?_
  rintro e' w1 ⟨rfl, hb1⟩
  have HB1 : Hid (Below w.heap.size w w1) := trans2 ((Below.refl _ _).alloc (Nat.le_refl _) _) hb1
  have HP1 : Hid (w1.heap[w.heap.size]? = some (.cells #[.int .i64 11, .int .i64 N, .int .i64 M, .int .i64 e.s, .int .i64 e.v, .int .i64 e.k, .int .i64 e.se, .int .i64 e.rq, .slice a n c] 55 (0, 0))) := kept_block hb1 (heap_alloc_new _ _)
  clear hb1
  go_wp2_with fail
  refine Calls.mono (HXF.out _ HB1.out) ?_
  rintro e' w2 ⟨rfl, hb2⟩
  have HB2 : Hid (Below w.heap.size w w2) := trans2 HB1.out hb2
  have HP2 : Hid (w2.heap[w.heap.size]? = some (.cells #[.int .i64 11, .int .i64 N, .int .i64 M, .int .i64 e.s, .int .i64 e.v, .int .i64 e.k, .int .i64 e.se, .int .i64 e.rq, .slice a n c] 55 (0, 0))) := kept_block hb2 HP1.out
  obtain ⟨t0, t1, t2, t3, t4, t5, t6, t7, t8⟩ := cells_9 HP2.out
  clear hb2 HP1
  go_wp2_with fail
  refine Calls.mono (HAS.out _ _ HB2.out) ?_
  rintro e' w3 ⟨rfl, hb⟩
  have HB3 : Hid (Below w.heap.size w w3) := trans2 HB2.out hb
  clear hb
  go_wp2_with fail
  go_ret
  exact ⟨rfl, HB3.out⟩
set_option maxHeartbeats 3200000 in
set_option maxRecDepth 100000 in
theorem played_12G {w0 : World} (b bx : Nat) (A : ActT) (a : Option Addr) (c n : Nat) (w : World) {R : RingT} {F : Nat} {O : Int} {H : List EnT} {P : List PEnt} {la : Option Addr} {lc : Nat} (h : RingAt w b R) (hx : RefAt w0 w bx R F O H P la lc) (hk : A.kd = 12) :
    Calls Try.prog 24 #[.pointer (some ⟨b, 0, none⟩), .pointer (some ⟨bx, 0, none⟩), A.val (.slice a n c)] w fun e' w' => e' = .returned (.bool true) ∧ Below w.heap.size w w' := by
  obtain ⟨kd, N, M, e⟩ := A
  have hk' : kd = 12 := hk
  clear hk
  subst hk'
  have HXF : Hid (∀ w', Below w.heap.size w w' → _) := fun w' hb => rFloor w' bx (hx.below hb)
  have HXL : Hid (∀ w', Below w.heap.size w w' → _) := fun w' hb => rLast w' bx (hx.below hb)
  have HAS : Hid (∀ w' m, Below w.heap.size w w' → _) := fun w' m hb => askedG b bx ⟨12, N, M, e⟩ (.slice a n c) m w' (h.below hb) (hx.below hb)
  obtain ⟨L, hL⟩ : ∃ L : Int, ((R.last : Nat) : Int) = L := ⟨_, rfl⟩
  obtain ⟨T, hT⟩ : ∃ T : Int, R.top = T := ⟨_, rfl⟩
  obtain ⟨fl, hfl⟩ : ∃ fl : Int, (R.floor : Int) = fl := ⟨_, rfl⟩
  obtain ⟨of, hof⟩ : ∃ of : Int, R.of = of := ⟨_, rfl⟩
  rw [hL, hT] at HXL
  rw [hfl, hof] at HXF
  clear h hx hL hT hfl hof
  go_enter Try.func24, Try.ntmps24
  go_wp2_with fail
  refine Calls.mono (HXL.out _ ((Below.refl _ _).alloc (Nat.le_refl _) _)) ?_
  rintro e' w1 ⟨rfl, hb1⟩
  have HB1 : Hid (Below w.heap.size w w1) := trans2 ((Below.refl _ _).alloc (Nat.le_refl _) _) hb1
  have HP1 : Hid (w1.heap[w.heap.size]? = some (.cells #[.int .i64 12, .int .i64 N, .int .i64 M, .int .i64 e.s, .int .i64 e.v, .int .i64 e.k, .int .i64 e.se, .int .i64 e.rq, .slice a n c] 55 (0, 0))) := kept_block hb1 (heap_alloc_new _ _)
  clear hb1
  go_wp2_with fail
  refine Calls.mono (HXF.out _ HB1.out) ?_
  rintro e' w2 ⟨rfl, hb2⟩
  have HB2 : Hid (Below w.heap.size w w2) := trans2 HB1.out hb2
  have HP2 : Hid (w2.heap[w.heap.size]? = some (.cells #[.int .i64 12, .int .i64 N, .int .i64 M, .int .i64 e.s, .int .i64 e.v, .int .i64 e.k, .int .i64 e.se, .int .i64 e.rq, .slice a n c] 55 (0, 0))) := kept_block hb2 HP1.out
  obtain ⟨t0, t1, t2, t3, t4, t5, t6, t7, t8⟩ := cells_9 HP2.out
  clear hb2 HP1
  go_wp2_with fail
  refine Calls.mono (HAS.out _ _ HB2.out) ?_
  rintro e' w3 ⟨rfl, hb⟩
  have HB3 : Hid (Below w.heap.size w w3) := trans2 HB2.out hb
  clear hb
  go_wp2_with fail
  go_ret
  exact ⟨rfl, HB3.out⟩
set_option maxHeartbeats 3200000 in
set_option maxRecDepth 100000 in
theorem played_elseG {w0 : World} (b bx : Nat) (A : ActT) (a : Option Addr) (c n : Nat) (w : World) {R : RingT} {F : Nat} {O : Int} {H : List EnT} {P : List PEnt} {la : Option Addr} {lc : Nat} (h : RingAt w b R) (hx : RefAt w0 w bx R F O H P la lc) (k1 : A.kd ≠ 1) (k2 : A.kd ≠ 2) (k3 : A.kd ≠ 3) (k4 : A.kd ≠ 4) (k5 : A.kd ≠ 5) (k6 : A.kd ≠ 6) (k7 : A.kd ≠ 7) (k8 : A.kd ≠ 8) (k9 : A.kd ≠ 9) (k10 : A.kd ≠ 10) (k11 : A.kd ≠ 11) (k12 : A.kd ≠ 12) :
    Calls Try.prog 24 #[.pointer (some ⟨b, 0, none⟩), .pointer (some ⟨bx, 0, none⟩), A.val (.slice a n c)] w fun e' w' => e' = .returned (.bool true) ∧ Below w.heap.size w w' := by
  obtain ⟨kd, N, M, e⟩ := A
  have j1 : (kd == 1) = false := by simpa using k1
  have j2 : (kd == 2) = false := by simpa using k2
  have j3 : (kd == 3) = false := by simpa using k3
  have j4 : (kd == 4) = false := by simpa using k4
  have j5 : (kd == 5) = false := by simpa using k5
  have j6 : (kd == 6) = false := by simpa using k6
  have j7 : (kd == 7) = false := by simpa using k7
  have j8 : (kd == 8) = false := by simpa using k8
  have j9 : (kd == 9) = false := by simpa using k9
  have j10 : (kd == 10) = false := by simpa using k10
  have j11 : (kd == 11) = false := by simpa using k11
  have j12 : (kd == 12) = false := by simpa using k12
  clear k1 k2 k3 k4 k5 k6 k7 k8 k9 k10 k11 k12
  have HXF : Hid (∀ w', Below w.heap.size w w' → _) := fun w' hb => rFloor w' bx (hx.below hb)
  have HXL : Hid (∀ w', Below w.heap.size w w' → _) := fun w' hb => rLast w' bx (hx.below hb)
  obtain ⟨L, hL⟩ : ∃ L : Int, ((R.last : Nat) : Int) = L := ⟨_, rfl⟩
  obtain ⟨T, hT⟩ : ∃ T : Int, R.top = T := ⟨_, rfl⟩
  obtain ⟨fl, hfl⟩ : ∃ fl : Int, (R.floor : Int) = fl := ⟨_, rfl⟩
  obtain ⟨of, hof⟩ : ∃ of : Int, R.of = of := ⟨_, rfl⟩
  rw [hL, hT] at HXL
  rw [hfl, hof] at HXF
  clear h hx hL hT hfl hof
  go_enter Try.func24, Try.ntmps24
  go_wp2_with fail
  refine Calls.mono (HXL.out _ ((Below.refl _ _).alloc (Nat.le_refl _) _)) ?_
  rintro e' w1 ⟨rfl, hb1⟩
  have HB1 : Hid (Below w.heap.size w w1) := trans2 ((Below.refl _ _).alloc (Nat.le_refl _) _) hb1
  have HP1 : Hid (w1.heap[w.heap.size]? = some (.cells #[.int .i64 kd, .int .i64 N, .int .i64 M, .int .i64 e.s, .int .i64 e.v, .int .i64 e.k, .int .i64 e.se, .int .i64 e.rq, .slice a n c] 55 (0, 0))) := kept_block hb1 (heap_alloc_new _ _)
  clear hb1
  go_wp2_with fail
  refine Calls.mono (HXF.out _ HB1.out) ?_
  rintro e' w2 ⟨rfl, hb2⟩
  have HB2 : Hid (Below w.heap.size w w2) := trans2 HB1.out hb2
  have HP2 : Hid (w2.heap[w.heap.size]? = some (.cells #[.int .i64 kd, .int .i64 N, .int .i64 M, .int .i64 e.s, .int .i64 e.v, .int .i64 e.k, .int .i64 e.se, .int .i64 e.rq, .slice a n c] 55 (0, 0))) := kept_block hb2 HP1.out
  obtain ⟨t0, t1, t2, t3, t4, t5, t6, t7, t8⟩ := cells_9 HP2.out
  clear hb2 HP1
  go_wp2_with fail
  go_ret
  exact ⟨rfl, HB2.out⟩
end Go.Proofs.Ytonppfnjeomcoaa
