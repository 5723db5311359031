/-
  The document's ring: Append.
-/
import Derived.Test.YtonppfnjeomcoaaRRef
import Derived.Test.YtonppfnjeomcoaaRNone
import Derived.Test.YtonppfnjeomcoaaRStop1
namespace Go.Proofs.Ytonppfnjeomcoaa
open Go.RowKit Classical
set_option linter.unusedVariables false
set_option linter.unusedSimpArgs false

set_option maxHeartbeats 3200000 in
theorem rApp_no {w0 : World} (w : World) (bx : Nat) (e : EnT) (x : Value) {R : RingT} {F : Nat} {O : Int} {H : List EnT} {P : List PEnt} {la : Option Addr} {lc : Nat} (h : RefAt w0 w bx R F O H P la lc) (hc : R.may e ≠ 0) :
    Calls Try.prog 50 #[.pointer (some ⟨bx, 0, none⟩), e.val x] w fun e' w' => e' = .returned (.int .i64 (R.may e)) ∧ Below w.heap.size w w' := by
  obtain ⟨s, v, k, se, rq, ops⟩ := e
  have HX : Hid (RefAt w0 w bx R F O H P la lc) := h
  have HL : Hid (∀ w', Below w.heap.size w w' → _) := fun w' hb => rLast w' bx (h.below hb)
  have HF : Hid (∀ w', Below w.heap.size w w' → _) := fun w' hb => rFloor w' bx (h.below hb)
  obtain ⟨k1, k2, k3, k4, k5, k6⟩ := h.kept
  obtain ⟨L, hL⟩ : ∃ L : Nat, R.last = L := ⟨_, rfl⟩
  obtain ⟨T, hT⟩ : ∃ T : Int, R.top = T := ⟨_, rfl⟩
  obtain ⟨K, hK⟩ : ∃ K, R.l.length = K := ⟨_, rfl⟩
  obtain ⟨rm, hrm⟩ : ∃ rm, R.room = rm := ⟨_, rfl⟩
  obtain ⟨hd, hhd⟩ : ∃ hd, R.hold = hd := ⟨_, rfl⟩
  obtain ⟨fl, hfl⟩ : ∃ fl, R.floor = fl := ⟨_, rfl⟩
  have hpos : 1 ≤ rm := by rw [← hrm]; exact h.pos
  have hcase : (L = 2147483647 ∧ R.may ⟨s, v, k, se, rq, ops⟩ = 3) ∨ (L ≠ 2147483647 ∧ v < 0 ∧ R.may ⟨s, v, k, se, rq, ops⟩ = 3) ∨ (L ≠ 2147483647 ∧ 0 ≤ v ∧ 2147483647 < v ∧ R.may ⟨s, v, k, se, rq, ops⟩ = 3) ∨ (L ≠ 2147483647 ∧ 0 ≤ v ∧ v ≤ 2147483647 ∧ s ≠ (L : Int) + 1 ∧ R.may ⟨s, v, k, se, rq, ops⟩ = 61) ∨ (L ≠ 2147483647 ∧ 0 ≤ v ∧ v ≤ 2147483647 ∧ s = (L : Int) + 1 ∧ v < T ∧ R.may ⟨s, v, k, se, rq, ops⟩ = 1) ∨ (L ≠ 2147483647 ∧ 0 ≤ v ∧ v ≤ 2147483647 ∧ s = (L : Int) + 1 ∧ ¬ v < T ∧ K = rm ∧ hd = fl ∧ R.may ⟨s, v, k, se, rq, ops⟩ = 62) := by
    unfold RingT.may at hc ⊢
    rw [hL, hT, hK, hrm, hhd, hfl] at hc ⊢
    simp only at hc ⊢
    by_cases g1 : L = 2147483647
    · exact .inl ⟨g1, if_pos (.inl g1)⟩
    by_cases g2 : v < 0
    · exact .inr (.inl ⟨g1, g2, if_pos (.inr (by omega))⟩)
    by_cases g3 : 2147483647 < v
    · exact .inr (.inr (.inl ⟨g1, by omega, g3, if_pos (.inr (by omega))⟩))
    rw [if_neg (by omega)] at hc ⊢
    by_cases g4 : s = (L : Int) + 1
    case neg => exact .inr (.inr (.inr (.inl ⟨g1, by omega, by omega, g4, if_pos g4⟩)))
    rw [if_neg (by omega)] at hc ⊢
    by_cases g5 : v < T
    · exact .inr (.inr (.inr (.inr (.inl ⟨g1, by omega, by omega, g4, g5, if_pos g5⟩))))
    rw [if_neg g5] at hc ⊢
    by_cases g6 : K = rm ∧ hd = fl
    · exact .inr (.inr (.inr (.inr (.inr ⟨g1, by omega, by omega, g4, g5, g6.1, g6.2, if_pos g6⟩))))
    rw [if_neg g6] at hc
    exact absurd rfl hc
  rw [hL, hT] at HL
  rw [hfl] at HF
  obtain ⟨of, hof⟩ : ∃ of, R.of = of := ⟨_, rfl⟩
  rw [hof] at HF
  have HV : Hid (R.l.length = K ∧ R.room = rm ∧ R.hold = hd) := ⟨hK, hrm, hhd⟩
  have hL2 : L ≤ 2147483647 := by rw [← hL]; exact k5
  have hfl2 : fl ≤ L := by rw [← hfl, ← hL]; exact Nat.le_add_right _ _
  clear h hT hL hc k1 k2 k3 k4 k5 k6 hK hrm hhd hfl hof
  rcases hcase with ⟨g1, hC⟩ | ⟨g1, g2, hC⟩ | ⟨g1, g2, g3, hC⟩ | ⟨g1, g2, g3, g4, hC⟩ | ⟨g1, g2, g3, g4, g5, hC⟩ | ⟨g1, g2, g3, g4, g5, g6, g7, hC⟩
  all_goals
    rw [hC]
    clear hC
    try subst g4
    try subst g7
    try subst g6
    have b1 : ((L : Int) == 2147483647) = decide (L = 2147483647) := by rw [Bool.eq_iff_iff]; simp; omega
    have b2 : decide (L = 2147483647) = true ∨ decide (L = 2147483647) = false := by cases decide (L = 2147483647) <;> simp
    first
      | rw [decide_eq_true g1] at b1
      | rw [decide_eq_false g1] at b1
    clear b2
    have b3 : ¬ v < 0 ∨ v < 0 := by omega
    have b4 : ∀ y z : Int, y ≠ z → (y == z) = false := fun y z hz => by simpa using hz
    try have b5 := b4 _ _ g4
    clear b3 b4
    try have b6 : ((K : Int) == 0) = false := by simp; omega
    try have b7 : (K == 0) = false := by simp; omega
    try have b8 : ((rm : Int) == 0) = false := by simp; omega
    try have b9 : (rm == 0) = false := by simp; omega
    try have b10 : (hd : Int) < (hd : Int) + 1 := by omega
    go_enter Try.func50, Try.ntmps50
    go_wp2_with fail
    refine Calls.mono (HL.out _ ((Below.refl _ _).alloc (Nat.le_refl _) _)) ?_
    rintro e' w1 ⟨rfl, hb1⟩
    have HB1 : Hid (Below w.heap.size w w1) := trans2 ((Below.refl _ _).alloc (Nat.le_refl _) _) hb1
    have HE1 : Hid (w1.heap[w.heap.size]? = some (.cells #[.int .i64 _, .int .i64 v, .int .i64 k, .int .i64 se, .int .i64 rq, x] 33 (0, 0))) := kept_block hb1 (heap_alloc_new _ _)
    clear hb1
    go_wp2_with fail
    refine Calls.mono (HF.out _ HB1.out) ?_
    rintro e' w2 ⟨rfl, hb2⟩
    have HB2 : Hid (Below w.heap.size w w2) := trans2 HB1.out hb2
    obtain ⟨q0, q1, -, -, -, -⟩ := cells_6 (kept_block hb2 HE1.out)
    have HX2 := (HX.out.below HB2.out).box
    obtain ⟨c0, c1, c2, c3, c4, c5⟩ := cells_6 HX2
    rw [HV.out.2.1] at c0
    rw [HV.out.2.2] at c3
    rw [HV.out.1] at c5
    clear hb2 HL HF HE1 HB1 HX2
    go_wp2_with fail
    try (go_quiet (fail); go_wp2_with fail)
    go_ret
    exact ⟨rfl, by first | exact HB2.out | exact below_drewN HB2.out _⟩
theorem step_append_own {P : Program} {ops : Array Oper} {o : Oper} {a : Act} {w : World} {K : Act → World → Prop} {Q : Exit → Act → World → Prop} {E : Prop}
    (hg : o.guard = none) (s x : Operand) (t : TypeId) (hop : o.op = Op.call { callee := Callee.builtin Builtin.append, args := #[s, x], argTypes := #[t, t] })
    (base : Nat) (e : TypeId) (i : TypeInfo) (z : Value) (size bytes : Nat) (h1 : P.underlying t = some (.slice e)) (h2 : P.info? e = some i) (h3 : i.zero = some z) (h4 : i.size = size) (h5 : i.bytes = bytes) (h6 : z.cells.size = size) (h7 : 0 < size)
    (v : Value) (n : Nat) (xs : List Value) (hs : a.eval s = v) (hown : w.ownsRow base e size v n xs)
    (ad : Addr) (m c : Nat) (news : List Value) (hx : a.eval x = .slice (some ad) m c) (hn : news.length = m * size) (hc : ∀ j u, news[j]? = some u → w.cell? (ad.add j) = some u) (h1c : ∀ u ∈ news, u.oneCell' = true)
    (b1 : n + m ≤ maxLen) (b2 : (n + m) * bytes ≤ 140737488355328) (hbase : base ≤ w.heap.size)
    (hK : ∀ v' w', w'.ownsRow base e size v' (n + m) (xs ++ news) → w.grownBy w' v.ownBlock → (v'.ownBlock = v.ownBlock ∨ v'.ownBlock = some w.heap.size) → K (a.put o.dst v') w') :
    if Region.wanted o (yielded ops a.tmps) = true then Oper.wp P o a w K Q else E := by
  have hw : Region.wanted o (yielded ops a.tmps) = true := by simp [Region.wanted, hg]
  rw [if_pos hw]
  obtain ⟨v', w', hr, g2, g3, _, g5⟩ := run_append_own_at (P := P) w base t o.type e i z size bytes h1 h2 h3 h4 h5 h6 h7 v n xs hown ad m c news hn hc h1c b1 b2 hbase
  unfold Oper.wp execOp
  simp only [hop, resolve, invoke, builtin, Sem.run_bind, Sem.run_pure, Result.andThen_ok, List.map_toArray, List.map_cons, List.map_nil, hs, hx, hr]
  exact hK v' w' g2 g3 g5
theorem SureAt.box {w0 w w' : World} {sv : Value} {P : List PEnt} {bx : Nat} {cs : Array Value} (h : SureAt w0 w sv P) (hk : Kp (fun x => x = bx) w w') (hb : w.heap[bx]? = some (.cells cs 64 (0, 0))) : SureAt w0 w' sv P := by
  have hne : ∀ {y : Value} {B e s n : Nat} {xs : List Value}, w.ownsRow B e s y n xs → e ≠ 64 → ∀ k, y.ownBlock = some k → ¬ k = bx := fun hy he k hk e => by
    obtain ⟨cur, hcu⟩ := owns_kind hy hk
    rw [e, hb] at hcu
    cases hcu
    exact he rfl
  exact ⟨owns_kp h.row hk (hne h.row (by decide)), fun p hp => owns_kp (h.ops p hp) hk (hne (h.ops p hp) (by decide))⟩
theorem owns_fresh {w w' : World} {B e s n : Nat} {v : Value} {xs : List Value} {S : Nat → Prop} (h : w.ownsRow B e s v n xs) (hk : Kp S w w') (hS : ∀ x, S x → w.heap.size ≤ x) : w'.ownsRow B e s v n xs :=
  owns_kp h hk (fun k hk' hs => by have := hS k hs; have := (h.lt k hk').2; omega)
theorem RefAt.fresh {w0 w w' : World} {bx : Nat} {R : RingT} {F : Nat} {O : Int} {H : List EnT} {P : List PEnt} {la : Option Addr} {lc : Nat} {S : Nat → Prop} (h : RefAt w0 w bx R F O H P la lc) (hk : Kp S w w') (hS : ∀ x, S x → w.heap.size ≤ x) : RefAt w0 w' bx R F O H P la lc :=
  ⟨hk.cells _ _ _ _ h.box (fun e => by have := hS _ e; have := lt_of_blk h.box; omega), h.es, ⟨owns_fresh h.mem.row hk hS, fun p hp => owns_fresh (h.mem.ops p hp) hk hS⟩, h.hist, h.st, h.ok, h.pos, h.lo, h.small⟩
theorem app_ok {R : RingT} {e : EnT} (o : R.Ok) (hp : 1 ≤ R.room) (hc : R.may e = 0) (hs : e.Small) : (R.app e).Ok := by
  obtain ⟨z1, z2, z3, z4, z5⟩ := may_zero hc
  have e1 : (R.app e).l.length = _ := app_len hp
  have e2 := app_last (e := e) hp
  have e3 := app_hold R e
  have e4 := app_room R e
  have o1 := o.fits
  have o2 := o.max
  have o3 := o.low
  have o4 := o.high
  refine ⟨by rw [e4]; exact o.room, by rw [e1, e4]; split <;> omega, ?_, by rw [e3, e2]; omega, by rw [e2]; omega, fun x hx => ?_⟩
  · rw [e3]
    unfold RingT.app
    split
    · show R.floor + 1 ≤ _
      omega
    · exact o3
  · unfold RingT.app at hx
    split at hx
    · rcases List.mem_append.1 hx with h | h
      · exact o.small x (List.mem_of_mem_tail h)
      · rw [List.mem_singleton] at h; rw [h]; exact hs
    · rcases List.mem_append.1 hx with h | h
      · exact o.small x h
      · rw [List.mem_singleton] at h; rw [h]; exact hs
theorem RefAt.appd {w0 w w5 W : World} {bx : Nat} {R : RingT} {F : Nat} {O : Int} {H : List EnT} {P : List PEnt} {la na : Option Addr} {lc nc N K' rm hd : Nat} {e : EnT} {x : Value} {cs : Array Value} (h : RefAt w0 w bx R F O H P la lc) (hc : R.may e = 0) (hs : e.Small) (hN : H.length = N) (hrm : R.room = rm) (hhd : R.hold = hd)
    (hS : SureAt w0 w5 (.slice na (N + 1) nc) (P ++ [⟨e, x⟩])) (hb : w5.heap[bx]? = some (.cells cs 64 (0, 0))) (hk : Kp (fun x => x = bx) w5 W) (hK : (R.app e).l.length = K')
    (hW : W.heap[bx]? = some (.cells #[.int .i64 rm, .int .i64 F, .int .i64 O, .int .i64 hd, .slice na (N + 1) nc, .int .i64 K'] 64 (0, 0))) : RefAt w0 W bx (R.app e) F O (H ++ [e]) (P ++ [⟨e, x⟩]) na nc := by
  have hl : (H ++ [e]).length = N + 1 := by rw [List.length_append, hN]; rfl
  obtain ⟨z1, z2, z3, z4, z5⟩ := may_zero hc
  refine ⟨?_, by rw [List.map_append, h.es]; rfl, ?_, h.hist.app h.ok hc, fun k y hk => ?_, app_ok h.ok h.pos hc hs, by rw [app_room]; exact h.pos, h.lo, fun y hy => ?_⟩
  · rw [app_room, app_hold, hl, hK, hrm, hhd]
    exact hW
  · rw [hl]
    exact hS.box hk hb
  · by_cases hkl : k < H.length
    · rw [List.getElem?_append_left hkl] at hk
      exact h.st k y hk
    · rw [List.getElem?_append_right (by omega)] at hk
      have hk0 : k - H.length = 0 := by
        have := (List.getElem?_eq_some_iff.1 hk).1
        simp at this
        omega
      rw [hk0] at hk
      cases hk
      rw [z3, h.hist.last]
      omega
  · rcases List.mem_append.1 hy with h1 | h1
    · exact h.small y h1
    · rw [List.mem_singleton] at h1; rw [h1]; exact hs
theorem RefAt.apart {w0 w W : World} {bx : Nat} {R : RingT} {F : Nat} {O : Int} {H : List EnT} {P : List PEnt} {la : Option Addr} {lc : Nat} {S : Nat → Prop} (h : RefAt w0 w bx R F O H P la lc) (hk : Kp S w W) (hb : ¬ S bx) (hl : ∀ y, (Value.slice la H.length lc).ownBlock = some y → ¬ S y) (hp : ∀ p ∈ P, ∀ y, p.x.ownBlock = some y → ¬ S y) : RefAt w0 W bx R F O H P la lc :=
  ⟨hk.cells _ _ _ _ h.box hb, h.es, ⟨owns_kp h.mem.row hk hl, fun p hq => owns_kp (h.mem.ops p hq) hk (hp p hq)⟩, h.hist, h.st, h.ok, h.pos, h.lo, h.small⟩
set_option maxHeartbeats 3200000 in
set_option maxRecDepth 100000 in
theorem rApp_ok {w0 : World} (w : World) (bx : Nat) (e : EnT) (a : Option Addr) (n c : Nat) {R : RingT} {F : Nat} {O : Int} {H : List EnT} {P : List PEnt} {la : Option Addr} {lc : Nat} (h : RefAt w0 w bx R F O H P la lc) (ho : Os w a e.ops) (hn : e.ops.length = n) (hs : e.Small) (hl : H.length < 1000) (hw : w0.heap.size ≤ w.heap.size) (hc : R.may e = 0) :
    Calls Try.prog 50 #[.pointer (some ⟨bx, 0, none⟩), e.val (.slice a n c)] w fun e' w' => e' = .returned (.int .i64 0) ∧ (∃ x na nc, RefAt w0 w' bx (R.app e) F O (H ++ [e]) (P ++ [⟨e, x⟩]) na nc ∧ (∀ y, x.ownBlock = some y → w.heap.size ≤ y) ∧ ∀ y, (Value.slice na (H.length + 1) nc).ownBlock = some y → (Value.slice la H.length lc).ownBlock = some y ∨ w.heap.size ≤ y) ∧ XStep w0 w w' bx la := by
  obtain ⟨i0, hi, hz0, hz1, hz2⟩ := info_parts Try.infoEn
  have HMC : Hid (R.may e = 0) := hc
  have HSM : Hid (e.Small) := hs
  obtain ⟨z1, z2, z3, z4, z5⟩ := may_zero hc
  have HES : Hid (e.s = ((F + 1 + H.length : Nat) : Int)) := by show _ = _; rw [z3, h.hist.last]; omega
  obtain ⟨s, v, k, se, rq, ops⟩ := e
  simp only at ho hn z1 z2 z3 z4 z5
  have HX : Hid (RefAt w0 w bx R F O H P la lc) := h
  have HL : Hid (∀ w', Below w.heap.size w w' → _) := fun w' hb => rLast w' bx (h.below hb)
  have HF : Hid (∀ w', Below w.heap.size w w' → _) := fun w' hb => rFloor w' bx (h.below hb)
  have HOP : Hid (∀ w', Below w.heap.size w w' → _) := fun w' hb => ops_any a c n ops w' (ho.below hb) hn (by have := hs.len; simp only at this; omega)
  have HN : Hid (ops.length = n) := hn
  obtain ⟨k1, k2, k3, k4, k5, k6⟩ := h.kept
  have hlow := h.ok.low
  have hfit := h.ok.fits
  obtain ⟨L, hL⟩ : ∃ L : Nat, R.last = L := ⟨_, rfl⟩
  obtain ⟨T, hT⟩ : ∃ T : Int, R.top = T := ⟨_, rfl⟩
  obtain ⟨K, hK⟩ : ∃ K, R.l.length = K := ⟨_, rfl⟩
  obtain ⟨rm, hrm⟩ : ∃ rm, R.room = rm := ⟨_, rfl⟩
  obtain ⟨hd, hhd⟩ : ∃ hd, R.hold = hd := ⟨_, rfl⟩
  obtain ⟨fl, hfl⟩ : ∃ fl, R.floor = fl := ⟨_, rfl⟩
  obtain ⟨of, hof⟩ : ∃ of, R.of = of := ⟨_, rfl⟩
  obtain ⟨N, hNN⟩ : ∃ N, H.length = N := ⟨_, rfl⟩
  have hpos : 1 ≤ rm := by rw [← hrm]; exact h.pos
  have HAPP : Hid ((R.app ⟨s, v, k, se, rq, ops⟩).room = rm ∧ (R.app ⟨s, v, k, se, rq, ops⟩).hold = hd ∧ (R.app ⟨s, v, k, se, rq, ops⟩).l.length = if K = rm then K else K + 1) := by
    refine ⟨by rw [app_room]; exact hrm, by rw [app_hold]; exact hhd, ?_⟩
    rw [app_len (by rw [hrm]; exact hpos), hK, hrm]
    split <;> omega
  rw [hL, hT] at HL
  rw [hfl, hof] at HF
  rw [hL] at z1 z3
  rw [hT] at z4
  rw [hK, hrm, hhd, hfl] at z5
  rw [hfl, hhd] at hlow
  rw [hK, hrm] at hfit
  have HV : Hid (R.l.length = K ∧ R.room = rm ∧ R.hold = hd ∧ H.length = N) := ⟨hK, hrm, hhd, hNN⟩
  have hL2 : L ≤ 2147483647 := by rw [← hL]; exact k5
  have hK64 : K ≤ 64 := by rw [← hK]; exact k6
  rw [hNN] at hl
  obtain ⟨zv1, zv2⟩ := z2
  have b1 : ((L : Int) == 2147483647) = false := by simp; omega
  have hcase : (K = rm ∧ fl < hd) ∨ (K < rm) := by omega
  have hfl2 : fl ≤ 2147483647 := by
    have e1 : R.last = R.floor + R.l.length := rfl
    rw [hL, hfl] at e1
    omega
  subst z3
  have v0 : ¬ v < 0 := by omega
  have v1 : ¬ 2147483647 < v := by omega
  have HWS0 : Hid (w0.heap.size ≤ w.heap.size) := hw
  clear h hT hL hc k1 k2 k3 k4 k5 k6 hK hrm hhd hfl hof hNN ho hn hs z5 hw
  rcases hcase with ⟨g1, g2⟩ | g1
  · subst g1
    have b2 : ((K : Int) == 0) = false := by simp; omega
    have b3 : (K == 0) = false := by simp; omega
    have b4 : ¬ (hd : Int) < (fl : Int) + 1 := by omega
    have b5 : decide ((hd : Int) < (fl : Int) + 1) = false := by simpa using b4
    have b6 : ¬ (K : Int) < (K : Int) := by omega
    go_enter Try.func50, Try.ntmps50
    go_wp2_with fail
    refine Calls.mono (HL.out _ ((Below.refl _ _).alloc (Nat.le_refl _) _)) ?_
    rintro e' w1 ⟨rfl, hb1⟩
    have HB1 : Hid (Below w.heap.size w w1) := trans2 ((Below.refl _ _).alloc (Nat.le_refl _) _) hb1
    have HE1 : Hid (w1.heap[w.heap.size]? = some (.cells #[.int .i64 ((L : Int) + 1), .int .i64 v, .int .i64 k, .int .i64 se, .int .i64 rq, .slice a n c] 33 (0, 0))) := kept_block hb1 (heap_alloc_new _ _)
    clear hb1
    go_wp2_with fail
    refine Calls.mono (HF.out _ HB1.out) ?_
    rintro e' w2 ⟨rfl, hb2⟩
    have HB2 : Hid (Below w.heap.size w w2) := trans2 HB1.out hb2
    have HE2 : Hid (w2.heap[w.heap.size]? = some (.cells #[.int .i64 ((L : Int) + 1), .int .i64 v, .int .i64 k, .int .i64 se, .int .i64 rq, .slice a n c] 33 (0, 0))) := kept_block hb2 HE1.out
    obtain ⟨q0, q1, q2, q3, q4, q5⟩ := cells_6 HE2.out
    have HX2 := (HX.out.below HB2.out).box
    obtain ⟨c0, c1, c2, c3, c4, c5⟩ := cells_6 HX2
    rw [HV.out.2.1] at c0
    rw [HV.out.2.2.1] at c3
    rw [HV.out.1] at c5
    clear hb2 HL HF HE1 HB1 HX2
    go_wp2_with fail
    go_quiet (fail)
    go_wp2_with fail
    refine Calls.mono (HOP.out _ (below_drewN HB2.out _)) ?_
    rintro e' w3 ⟨y, rfl, hown, hb3⟩
    obtain ⟨ya, yc, rfl, -, -⟩ := owns_form hown
    have HB3 : Hid (Below w.heap.size w w3) := trans2 (below_drewN HB2.out _) hb3
    have HE3 : Hid (w3.heap[w.heap.size]? = some (.cells #[.int .i64 ((L : Int) + 1), .int .i64 v, .int .i64 k, .int .i64 se, .int .i64 rq, .slice a n c] 33 (0, 0))) := kept_block hb3 HE2.out
    have HOW3 : Hid (w3.ownsRow 0 44 5 (.slice ya n yc) n (opCs ops)) := owns_lower hown
    have HYB : Hid (∀ y, (Value.slice ya n yc).ownBlock = some y → w.heap.size ≤ y) := fun y hy => Nat.le_trans (below_drewN HB2.out nq).size (hown.lt y hy).1
    clear hown hb3 q0 q1 q2 q3 q4 q5 c0 c1 c2 c3 c4 c5 HE2 HB2 HOP
    obtain ⟨q0, q1, q2, q3, q4, q5⟩ := cells_6 HE3.out
    have fe := free_blk HE3.out
    have HK4 : Hid (Kp (fun x => x = w.heap.size) w (w3.setCell ⟨w.heap.size, 5, none⟩ (.slice ya n yc))) := (Kp.of_below HB3.out _).trans (Kp.of_chg (Chg.set _ _ _))
    have HE4 : Hid ((w3.setCell ⟨w.heap.size, 5, none⟩ (.slice ya n yc)).heap[w.heap.size]? = some (.cells #[.int .i64 ((L : Int) + 1), .int .i64 v, .int .i64 k, .int .i64 se, .int .i64 rq, .slice ya n yc] 33 (0, 0))) := same_blk HE3.out rfl
    have HX4 : Hid (RefAt w0 (w3.setCell ⟨w.heap.size, 5, none⟩ (.slice ya n yc)) bx R F O H P la lc) := HX.out.fresh HK4.out (fun x hx => by rw [hx]; exact Nat.le_refl _)
    have HB4 : Hid (Below w.heap.size w (w3.setCell ⟨w.heap.size, 5, none⟩ (.slice ya n yc))) := HB3.out.setCell (Nat.le_refl _) _
    have HOW4 : Hid ((w3.setCell ⟨w.heap.size, 5, none⟩ (.slice ya n yc)).ownsRow 0 44 5 (.slice ya n yc) n (opCs ops)) := owns_kp HOW3.out (Kp.of_chg (Chg.set _ _ _)) (fun x hx e => by
      have e' : x = w.heap.size := e
      obtain ⟨cur, hcu⟩ := owns_kind HOW3.out hx
      rw [e', HE3.out] at hcu
      cases hcu)
    obtain ⟨r0, r1, r2, r3, r4, r5⟩ := cells_6 HE4.out
    obtain ⟨c0, c1, c2, c3, c4, c5⟩ := cells_6 HX4.out.box
    rw [HV.out.2.1] at c0
    rw [HV.out.2.2.1] at c3
    rw [HV.out.2.2.2] at c4
    rw [HV.out.1] at c5
    have fb := free_blk HX4.out.box
    have H1C : Hid (∀ u ∈ [Value.int .i64 ((L : Int) + 1), .int .i64 v, .int .i64 k, .int .i64 se, .int .i64 rq, .slice ya n yc], u.oneCell' = true) := fun u hu => by
      simp only [List.mem_cons, List.not_mem_nil, or_false] at hu
      rcases hu with rfl | rfl | rfl | rfl | rfl | rfl <;> rfl
    have HR4 : Hid ((w3.setCell ⟨w.heap.size, 5, none⟩ (.slice ya n yc)).ownsRow w0.heap.size 33 6 (.slice la N lc) N (rowCs PEnt.cells P)) := by
      have h9 := HX4.out.mem.row
      rw [HX4.out.len, HV.out.2.2.2] at h9
      exact h9
    have HBX4 : Hid ((w3.setCell ⟨w.heap.size, 5, none⟩ (.slice ya n yc)).heap[bx]? = some (.cells #[.int .i64 K, .int .i64 F, .int .i64 O, .int .i64 hd, .slice la N lc, .int .i64 K] 64 (0, 0))) := by
      have h9 := HX4.out.box
      rw [HV.out.1, HV.out.2.1, HV.out.2.2.1, HV.out.2.2.2] at h9
      exact h9
    go_wp2_with fail
    generalize hw4 : w3.setCell ⟨w.heap.size, 5, none⟩ (.slice ya n yc) = w4 at HX4 HE4 HB4 HOW4 HK4 HR4 HBX4 c0 c1 c2 c3 c4 c5 r0 r1 r2 r3 r4 r5 fb ⊢
    clear hw4 HE3 HOW3 HB3 q0 q1 q2 q3 q4 q5 fe
    have hb4 : bx < w4.heap.size := lt_of_blk HBX4.out
    have hA0 : ∀ (ob : Obj) (o : Nat), (w4.drew.alloc ob).cell? ⟨bx, o, none⟩ = w4.cell? ⟨bx, o, none⟩ := fun ob o => ((Below.refl _ w4.drew).alloc (Nat.le_refl _) ob).cell (p := ⟨bx, o, none⟩) hb4
    have HMX : Hid (N + 1 ≤ maxLen) := by show N + 1 ≤ maxLen; unfold maxLen; omega
    have hby : (N + 1) * 64 ≤ 140737488355328 := by omega
    have HW4 : Hid (w0.heap.size ≤ w4.heap.size) := Nat.le_trans HWS0.out HB4.out.size
    have HM4 : Hid (SureAt w0 w4 (.slice la N lc) P) := by
      have h9 := HX4.out.mem
      rw [HV.out.2.2.2] at h9
      exact h9
    have HNE : Hid (∀ y, (Value.slice la N lc).ownBlock = some y → y ≠ bx ∧ ∃ o, la = some ⟨y, o, none⟩) := fun y hy => by
      refine ⟨fun e => ?_, ?_⟩
      · obtain ⟨cur, hcu⟩ := owns_kind HR4.out hy
        rw [e, HBX4.out] at hcu
        cases hcu
      · rcases HR4.out.2 with ⟨h0, _⟩ | ⟨g, cap, cur, hv, _⟩
        · rw [h0] at hy; cases hy
        · rw [hv] at hy
          simp only [Value.slice.injEq] at hv
          obtain ⟨rfl, -, -⟩ := hv
          cases hy
          exact ⟨_, rfl⟩
    go_region_law (
      (refine step_append_own rfl (.tmp 73) (.tmp 75) 25 rfl w0.heap.size 33 i0 (.agg #[.int .i64 0, .int .i64 0, .int .i64 0, .int .i64 0, .int .i64 0, .slice none 0 0]) 6 64 Try.underlying25 hi hz0 hz1 hz2 rfl (by decide) (.slice la N lc) N (rowCs PEnt.cells P) (by simp [Act.eval, Act.put]) (World.ownsRow.alloc HR4.out _) ⟨w4.heap.size, 0, none⟩ 1 1 [.int .i64 ((L : Int) + 1), .int .i64 v, .int .i64 k, .int .i64 se, .int .i64 rq, .slice ya n yc] (by simp [Act.eval, Act.put]) rfl (cells_new w4.drew [.int .i64 ((L : Int) + 1), .int .i64 v, .int .i64 k, .int .i64 se, .int .i64 rq, .slice ya n yc] 33) H1C.out HMX.out hby (by show w0.heap.size ≤ (w4.alloc _).heap.size; rw [World.size_alloc]; exact Nat.le_succ_of_le HW4.out) ?_
       intro v' w5 hown' hgrow hat
       obtain ⟨na, nc, rfl, -, -⟩ := owns_form hown'
       have hal : Below w4.heap.size w4 (w4.drew.alloc (.cells #[.int .i64 ((L : Int) + 1), .int .i64 v, .int .i64 k, .int .i64 se, .int .i64 rq, .slice ya n yc] 33)) := (below_drew (Below.refl _ _)).alloc (Nat.le_refl _) _
       have hbx5 : w5.heap[bx]? = some (.cells #[.int .i64 K, .int .i64 F, .int .i64 O, .int .i64 hd, .slice la N lc, .int .i64 K] 64 (0, 0)) := by
         rw [hgrow.block bx (Nat.lt_of_lt_of_le hb4 hal.size) (fun e => (HNE.out bx e.symm).1 rfl)]
         exact kept_block hal HBX4.out
       have HBX5 : Hid (w5.heap[bx]? = some (.cells #[.int .i64 K, .int .i64 F, .int .i64 O, .int .i64 hd, .slice la N lc, .int .i64 K] 64 (0, 0))) := hbx5
       have HS5 : Hid (SureAt w0 w5 (.slice na (N + 1) nc) (P ++ [⟨⟨(L : Int) + 1, v, k, se, rq, ops⟩, .slice ya n yc⟩])) := by
         refine SureAt.put (p := ⟨⟨(L : Int) + 1, v, k, se, rq, ops⟩, .slice ya n yc⟩) (HM4.out.below hal) ?_ ?_ hgrow
         · have h9 := owns_below HOW4.out hal
           rw [← HN.out] at h9
           rw [← HN.out]
           exact h9
         · rw [show P.length = N by rw [HX4.out.len, HV.out.2.2.2]]
           exact hown'
       have HAT : Hid (∀ y, (Value.slice na (H.length + 1) nc).ownBlock = some y → (Value.slice la H.length lc).ownBlock = some y ∨ w.heap.size ≤ y) := by
         intro y hy
         rw [HV.out.2.2.2] at hy ⊢
         rcases hat with h9 | h9
         · exact .inl (h9 ▸ hy)
         · rw [h9] at hy
           cases hy
           exact .inr (Nat.le_trans HB4.out.size hal.size)
       have HK5 : Hid (Kp (XS bx la) w4 w5) := (Kp.of_below hal _).trans ((Kp.of_chg (Chg.grown hgrow)).mono (fun y hy => .inr (HNE.out y hy).2))
       have HB5 : Hid (Below w0.heap.size w0 w → Below w0.heap.size w0 w5) := fun hb => (trans2 (trans2 hb HB4.out) hal).grown hgrow (Nat.le_trans HW4.out hal.size) (fun y hy => (HR4.out.lt y hy).1)
       obtain ⟨d0, d1, d2, d3, d4, d5⟩ := cells_6 hbx5
       have fb5 := free_blk hbx5
       clear hown' hgrow hal hbx5 hat))
    all_goals
      go_wp2_with fail
      try (go_quiet (fail); go_wp2_with fail)
      go_ret
      have t1 : Kp (fun x => x = bx) w5 ((w5.setCell ⟨bx, 4, none⟩ (.slice na (N + 1) nc)).drewN nq) := (Kp.of_chg (Chg.set _ _ _) : Kp (fun x => x = bx) w5 (w5.setCell ⟨bx, 4, none⟩ (.slice na (N + 1) nc))).trans (Kp.of_below (below_drewN (Below.refl _ _) _) _)
      have t3 : Kp (XS bx la) w w4 := ⟨HB4.out.size, fun i cs t fr hi hs => HK4.out.cells i cs t fr hi (fun e => by have := lt_of_blk hi; omega)⟩
      refine ⟨rfl, ⟨.slice ya n yc, na, nc, HX.out.appd (K' := K) HMC.out HSM.out HV.out.2.2.2 HV.out.2.1 HV.out.2.2.1 HS5.out HBX5.out t1 ?_ (same_blk HBX5.out rfl), HYB.out, HAT.out⟩, t3.trans (HK5.out.trans (t1.mono (fun x hx => .inl hx))), fun hb => below_drewN ((HB5.out hb).setCell HX.out.lo _) _⟩
      rw [HAPP.out.2.2]
      simp
  · have b2 : ((K : Int) == (rm : Int)) = false := by simp; omega
    have b3 : (K == rm) = false := by simp; omega
    have b4 : (K : Int) < (rm : Int) := by omega
    go_enter Try.func50, Try.ntmps50
    go_wp2_with fail
    refine Calls.mono (HL.out _ ((Below.refl _ _).alloc (Nat.le_refl _) _)) ?_
    rintro e' w1 ⟨rfl, hb1⟩
    have HB1 : Hid (Below w.heap.size w w1) := trans2 ((Below.refl _ _).alloc (Nat.le_refl _) _) hb1
    have HE1 : Hid (w1.heap[w.heap.size]? = some (.cells #[.int .i64 ((L : Int) + 1), .int .i64 v, .int .i64 k, .int .i64 se, .int .i64 rq, .slice a n c] 33 (0, 0))) := kept_block hb1 (heap_alloc_new _ _)
    clear hb1
    go_wp2_with fail
    refine Calls.mono (HF.out _ HB1.out) ?_
    rintro e' w2 ⟨rfl, hb2⟩
    have HB2 : Hid (Below w.heap.size w w2) := trans2 HB1.out hb2
    have HE2 : Hid (w2.heap[w.heap.size]? = some (.cells #[.int .i64 ((L : Int) + 1), .int .i64 v, .int .i64 k, .int .i64 se, .int .i64 rq, .slice a n c] 33 (0, 0))) := kept_block hb2 HE1.out
    obtain ⟨q0, q1, q2, q3, q4, q5⟩ := cells_6 HE2.out
    have HX2 := (HX.out.below HB2.out).box
    obtain ⟨c0, c1, c2, c3, c4, c5⟩ := cells_6 HX2
    rw [HV.out.2.1] at c0
    rw [HV.out.2.2.1] at c3
    rw [HV.out.1] at c5
    clear hb2 HL HF HE1 HB1 HX2
    go_wp2_with fail
    go_quiet (fail)
    go_wp2_with fail
    refine Calls.mono (HOP.out _ (below_drewN HB2.out _)) ?_
    rintro e' w3 ⟨y, rfl, hown, hb3⟩
    obtain ⟨ya, yc, rfl, -, -⟩ := owns_form hown
    have HB3 : Hid (Below w.heap.size w w3) := trans2 (below_drewN HB2.out _) hb3
    have HE3 : Hid (w3.heap[w.heap.size]? = some (.cells #[.int .i64 ((L : Int) + 1), .int .i64 v, .int .i64 k, .int .i64 se, .int .i64 rq, .slice a n c] 33 (0, 0))) := kept_block hb3 HE2.out
    have HOW3 : Hid (w3.ownsRow 0 44 5 (.slice ya n yc) n (opCs ops)) := owns_lower hown
    have HYB : Hid (∀ y, (Value.slice ya n yc).ownBlock = some y → w.heap.size ≤ y) := fun y hy => Nat.le_trans (below_drewN HB2.out nq).size (hown.lt y hy).1
    clear hown hb3 q0 q1 q2 q3 q4 q5 c0 c1 c2 c3 c4 c5 HE2 HB2 HOP
    obtain ⟨q0, q1, q2, q3, q4, q5⟩ := cells_6 HE3.out
    have fe := free_blk HE3.out
    have HK4 : Hid (Kp (fun x => x = w.heap.size) w (w3.setCell ⟨w.heap.size, 5, none⟩ (.slice ya n yc))) := (Kp.of_below HB3.out _).trans (Kp.of_chg (Chg.set _ _ _))
    have HE4 : Hid ((w3.setCell ⟨w.heap.size, 5, none⟩ (.slice ya n yc)).heap[w.heap.size]? = some (.cells #[.int .i64 ((L : Int) + 1), .int .i64 v, .int .i64 k, .int .i64 se, .int .i64 rq, .slice ya n yc] 33 (0, 0))) := same_blk HE3.out rfl
    have HX4 : Hid (RefAt w0 (w3.setCell ⟨w.heap.size, 5, none⟩ (.slice ya n yc)) bx R F O H P la lc) := HX.out.fresh HK4.out (fun x hx => by rw [hx]; exact Nat.le_refl _)
    have HB4 : Hid (Below w.heap.size w (w3.setCell ⟨w.heap.size, 5, none⟩ (.slice ya n yc))) := HB3.out.setCell (Nat.le_refl _) _
    have HOW4 : Hid ((w3.setCell ⟨w.heap.size, 5, none⟩ (.slice ya n yc)).ownsRow 0 44 5 (.slice ya n yc) n (opCs ops)) := owns_kp HOW3.out (Kp.of_chg (Chg.set _ _ _)) (fun x hx e => by
      have e' : x = w.heap.size := e
      obtain ⟨cur, hcu⟩ := owns_kind HOW3.out hx
      rw [e', HE3.out] at hcu
      cases hcu)
    obtain ⟨r0, r1, r2, r3, r4, r5⟩ := cells_6 HE4.out
    obtain ⟨c0, c1, c2, c3, c4, c5⟩ := cells_6 HX4.out.box
    rw [HV.out.2.1] at c0
    rw [HV.out.2.2.1] at c3
    rw [HV.out.2.2.2] at c4
    rw [HV.out.1] at c5
    have fb := free_blk HX4.out.box
    have H1C : Hid (∀ u ∈ [Value.int .i64 ((L : Int) + 1), .int .i64 v, .int .i64 k, .int .i64 se, .int .i64 rq, .slice ya n yc], u.oneCell' = true) := fun u hu => by
      simp only [List.mem_cons, List.not_mem_nil, or_false] at hu
      rcases hu with rfl | rfl | rfl | rfl | rfl | rfl <;> rfl
    have HR4 : Hid ((w3.setCell ⟨w.heap.size, 5, none⟩ (.slice ya n yc)).ownsRow w0.heap.size 33 6 (.slice la N lc) N (rowCs PEnt.cells P)) := by
      have h9 := HX4.out.mem.row
      rw [HX4.out.len, HV.out.2.2.2] at h9
      exact h9
    have HBX4 : Hid ((w3.setCell ⟨w.heap.size, 5, none⟩ (.slice ya n yc)).heap[bx]? = some (.cells #[.int .i64 rm, .int .i64 F, .int .i64 O, .int .i64 hd, .slice la N lc, .int .i64 K] 64 (0, 0))) := by
      have h9 := HX4.out.box
      rw [HV.out.1, HV.out.2.1, HV.out.2.2.1, HV.out.2.2.2] at h9
      exact h9
    go_wp2_with fail
    generalize hw4 : w3.setCell ⟨w.heap.size, 5, none⟩ (.slice ya n yc) = w4 at HX4 HE4 HB4 HOW4 HK4 HR4 HBX4 c0 c1 c2 c3 c4 c5 r0 r1 r2 r3 r4 r5 fb ⊢
    clear hw4 HE3 HOW3 HB3 q0 q1 q2 q3 q4 q5 fe
    have hb4 : bx < w4.heap.size := lt_of_blk HBX4.out
    have hA0 : ∀ (ob : Obj) (o : Nat), (w4.drew.alloc ob).cell? ⟨bx, o, none⟩ = w4.cell? ⟨bx, o, none⟩ := fun ob o => ((Below.refl _ w4.drew).alloc (Nat.le_refl _) ob).cell (p := ⟨bx, o, none⟩) hb4
    have HMX : Hid (N + 1 ≤ maxLen) := by show N + 1 ≤ maxLen; unfold maxLen; omega
    have hby : (N + 1) * 64 ≤ 140737488355328 := by omega
    have HW4 : Hid (w0.heap.size ≤ w4.heap.size) := Nat.le_trans HWS0.out HB4.out.size
    have HM4 : Hid (SureAt w0 w4 (.slice la N lc) P) := by
      have h9 := HX4.out.mem
      rw [HV.out.2.2.2] at h9
      exact h9
    have HNE : Hid (∀ y, (Value.slice la N lc).ownBlock = some y → y ≠ bx ∧ ∃ o, la = some ⟨y, o, none⟩) := fun y hy => by
      refine ⟨fun e => ?_, ?_⟩
      · obtain ⟨cur, hcu⟩ := owns_kind HR4.out hy
        rw [e, HBX4.out] at hcu
        cases hcu
      · rcases HR4.out.2 with ⟨h0, _⟩ | ⟨g, cap, cur, hv, _⟩
        · rw [h0] at hy; cases hy
        · rw [hv] at hy
          simp only [Value.slice.injEq] at hv
          obtain ⟨rfl, -, -⟩ := hv
          cases hy
          exact ⟨_, rfl⟩
    go_region_law (
      (refine step_append_own rfl (.tmp 73) (.tmp 75) 25 rfl w0.heap.size 33 i0 (.agg #[.int .i64 0, .int .i64 0, .int .i64 0, .int .i64 0, .int .i64 0, .slice none 0 0]) 6 64 Try.underlying25 hi hz0 hz1 hz2 rfl (by decide) (.slice la N lc) N (rowCs PEnt.cells P) (by simp [Act.eval, Act.put]) (World.ownsRow.alloc HR4.out _) ⟨w4.heap.size, 0, none⟩ 1 1 [.int .i64 ((L : Int) + 1), .int .i64 v, .int .i64 k, .int .i64 se, .int .i64 rq, .slice ya n yc] (by simp [Act.eval, Act.put]) rfl (cells_new w4.drew [.int .i64 ((L : Int) + 1), .int .i64 v, .int .i64 k, .int .i64 se, .int .i64 rq, .slice ya n yc] 33) H1C.out HMX.out hby (by show w0.heap.size ≤ (w4.alloc _).heap.size; rw [World.size_alloc]; exact Nat.le_succ_of_le HW4.out) ?_
       intro v' w5 hown' hgrow hat
       obtain ⟨na, nc, rfl, -, -⟩ := owns_form hown'
       have hal : Below w4.heap.size w4 (w4.drew.alloc (.cells #[.int .i64 ((L : Int) + 1), .int .i64 v, .int .i64 k, .int .i64 se, .int .i64 rq, .slice ya n yc] 33)) := (below_drew (Below.refl _ _)).alloc (Nat.le_refl _) _
       have hbx5 : w5.heap[bx]? = some (.cells #[.int .i64 rm, .int .i64 F, .int .i64 O, .int .i64 hd, .slice la N lc, .int .i64 K] 64 (0, 0)) := by
         rw [hgrow.block bx (Nat.lt_of_lt_of_le hb4 hal.size) (fun e => (HNE.out bx e.symm).1 rfl)]
         exact kept_block hal HBX4.out
       have HBX5 : Hid (w5.heap[bx]? = some (.cells #[.int .i64 rm, .int .i64 F, .int .i64 O, .int .i64 hd, .slice la N lc, .int .i64 K] 64 (0, 0))) := hbx5
       have HS5 : Hid (SureAt w0 w5 (.slice na (N + 1) nc) (P ++ [⟨⟨(L : Int) + 1, v, k, se, rq, ops⟩, .slice ya n yc⟩])) := by
         refine SureAt.put (p := ⟨⟨(L : Int) + 1, v, k, se, rq, ops⟩, .slice ya n yc⟩) (HM4.out.below hal) ?_ ?_ hgrow
         · have h9 := owns_below HOW4.out hal
           rw [← HN.out] at h9
           rw [← HN.out]
           exact h9
         · rw [show P.length = N by rw [HX4.out.len, HV.out.2.2.2]]
           exact hown'
       have HAT : Hid (∀ y, (Value.slice na (H.length + 1) nc).ownBlock = some y → (Value.slice la H.length lc).ownBlock = some y ∨ w.heap.size ≤ y) := by
         intro y hy
         rw [HV.out.2.2.2] at hy ⊢
         rcases hat with h9 | h9
         · exact .inl (h9 ▸ hy)
         · rw [h9] at hy
           cases hy
           exact .inr (Nat.le_trans HB4.out.size hal.size)
       have HK5 : Hid (Kp (XS bx la) w4 w5) := (Kp.of_below hal _).trans ((Kp.of_chg (Chg.grown hgrow)).mono (fun y hy => .inr (HNE.out y hy).2))
       have HB5 : Hid (Below w0.heap.size w0 w → Below w0.heap.size w0 w5) := fun hb => (trans2 (trans2 hb HB4.out) hal).grown hgrow (Nat.le_trans HW4.out hal.size) (fun y hy => (HR4.out.lt y hy).1)
       obtain ⟨d0, d1, d2, d3, d4, d5⟩ := cells_6 hbx5
       have fb5 := free_blk hbx5
       clear hown' hgrow hal hbx5 hat))
    all_goals
      go_wp2_with fail
      try (go_quiet (fail); go_wp2_with fail)
      go_ret
      have t1 : Kp (fun x => x = bx) w5 ((w5.setCell ⟨bx, 4, none⟩ (.slice na (N + 1) nc)).drewN nq) := (Kp.of_chg (Chg.set _ _ _) : Kp (fun x => x = bx) w5 (w5.setCell ⟨bx, 4, none⟩ (.slice na (N + 1) nc))).trans (Kp.of_below (below_drewN (Below.refl _ _) _) _)
      have t2 : Kp (fun x => x = bx) ((w5.setCell ⟨bx, 4, none⟩ (.slice na (N + 1) nc)).drewN nq) (((w5.setCell ⟨bx, 4, none⟩ (.slice na (N + 1) nc)).drewN nq).setCell ⟨bx, 5, none⟩ (.int .i64 ((K : Int) + 1))) := Kp.of_chg (Chg.set _ _ _)
      have t3 : Kp (XS bx la) w w4 := ⟨HB4.out.size, fun i cs t fr hi hs => HK4.out.cells i cs t fr hi (fun e => by have := lt_of_blk hi; omega)⟩
      refine ⟨rfl, ⟨.slice ya n yc, na, nc, HX.out.appd (K' := K + 1) HMC.out HSM.out HV.out.2.2.2 HV.out.2.1 HV.out.2.2.1 HS5.out HBX5.out (t1.trans t2) ?_ (same_blk (same_blk HBX5.out rfl) rfl), HYB.out, HAT.out⟩, t3.trans (HK5.out.trans ((t1.trans t2).mono (fun x hx => .inl hx))), fun hb => (below_drewN ((HB5.out hb).setCell HX.out.lo _) _).setCell HX.out.lo _⟩
      rw [HAPP.out.2.2, if_neg (by omega)]
end Go.Proofs.Ytonppfnjeomcoaa
