/-
  ViewFills: the walk, for any service that serves.
-/
import Derived.Test.YtlbhnlpdijhmlaaVBegin
namespace Go.Proofs.Ytlbhnlpdijhmlaa
open Go.RowKit
set_option linter.unusedVariables false
set_option linter.unusedSimpArgs false

/-- What is true between two rounds. -/
structure FI (nodes : Int) (V : SvT) (i tk : Nat) : Prop where
  ok : V.Ok
  nodes : V.nodes = nodes
  ne : V.l ≠ []
  len : V.l.length = tk + 1
  bk : 1 ≤ (lastV V.l).b
  few : i ≤ 400 → tk = i
  many : 400 ≤ i → tk = 400
theorem FI.new {n : Int} (h1 : 2 ≤ n) (h2 : n ≤ 5) (ok : (newV n).Ok) : FI n (newV n) 0 0 :=
  ⟨ok, rfl, by simp [newV], by simp [newV], by simp [newV, lastV]; rw [if_pos (by omega)]; decide, fun _ => rfl, fun h => by omega⟩
theorem FI.sett {n : Int} {V : SvT} {i tk : Nat} (h : FI n V i tk) : V.settC (lastV V.l).n (lastV V.l).p = 0 ∧ V.sett (lastV V.l).n (lastV V.l).p = ⟨V.nodes, V.l, true⟩ := by
  have e : V.settC (lastV V.l).n (lastV V.l).p = 0 := by unfold SvT.settC; rw [if_neg (by simp [h.ne])]
  exact ⟨e, by unfold SvT.sett; rw [if_pos e]⟩
theorem FI.may {n : Int} {V : SvT} {i tk : Nat} (h : FI n V i tk) : (⟨V.nodes, V.l, true⟩ : SvT).promC (lastV V.l).b (lastV V.l).p = if 401 ≤ V.l.length then 3 else 0 := by
  have hn := h.ok.num _ _ (lastV_at h.ne)
  have hb := h.bk
  unfold SvT.promC
  rw [if_neg (by simp), if_neg]
  intro hh
  simp only at hh
  rcases hh with hh | ⟨_, hh⟩ | hh | hh | hh
  · omega
  · exact hh rfl
  · omega
  · omega
  · exact hn.2.2.2.2.2 hh.symm
theorem FI.on {n : Int} {V : SvT} {i tk : Nat} (h : FI n V i tk) (hlt : tk < 400) : (⟨V.nodes, V.l, true⟩ : SvT).promC (lastV V.l).b (lastV V.l).p = 0 ∧ FI n ((⟨V.nodes, V.l, true⟩ : SvT).prom (lastV V.l).b (lastV V.l).p) (i + 1) (tk + 1) := by
  have e : (⟨V.nodes, V.l, true⟩ : SvT).promC (lastV V.l).b (lastV V.l).p = 0 := by rw [h.may, if_neg (by rw [h.len]; omega)]
  have hok : (⟨V.nodes, V.l, true⟩ : SvT).Ok := by
    have := h.ok.sett (lastV V.l).n (lastV V.l).p
    rw [h.sett.2] at this
    exact this
  have e2 : (⟨V.nodes, V.l, true⟩ : SvT).prom (lastV V.l).b (lastV V.l).p = ⟨V.nodes, V.l ++ [⟨(lastV V.l).n + 1, (lastV V.l).b, (lastV V.l).p⟩], false⟩ := by unfold SvT.prom; rw [if_pos e]
  have hk := hok.prom (lastV V.l).b (lastV V.l).p
  have hn := h.ok.num _ _ (lastV_at h.ne)
  rw [e2] at hk ⊢
  have hi : tk = i := by
    by_cases hh : i ≤ 400
    · exact h.few hh
    · have := h.many (by omega); omega
  exact ⟨e, hk, h.nodes, by simp, by simp [h.len], by rw [lastV_snoc]; exact hn.2.1, fun _ => by omega, fun _ => by omega⟩
theorem FI.full {n : Int} {V : SvT} {i tk : Nat} (h : FI n V i tk) (hge : ¬ tk < 400) : tk = 400 ∧ (⟨V.nodes, V.l, true⟩ : SvT).promC (lastV V.l).b (lastV V.l).p = 3 ∧ FI n ((⟨V.nodes, V.l, true⟩ : SvT).prom (lastV V.l).b (lastV V.l).p) (i + 1) tk := by
  have hl := h.ok.len
  have hle := h.len
  have htk : tk = 400 := by omega
  have e : (⟨V.nodes, V.l, true⟩ : SvT).promC (lastV V.l).b (lastV V.l).p = 3 := by rw [h.may, if_pos (by rw [h.len]; omega)]
  have hok : (⟨V.nodes, V.l, true⟩ : SvT).Ok := by
    have := h.ok.sett (lastV V.l).n (lastV V.l).p
    rw [h.sett.2] at this
    exact this
  have e2 : (⟨V.nodes, V.l, true⟩ : SvT).prom (lastV V.l).b (lastV V.l).p = ⟨V.nodes, V.l, true⟩ := by unfold SvT.prom; rw [if_neg (by rw [e]; decide)]
  rw [e2]
  have hi : 400 ≤ i := by
    by_cases hh : i ≤ 400
    · have := h.few hh; omega
    · omega
  exact ⟨htk, e, hok, h.nodes, h.ne, h.len, h.bk, fun hh => by omega, fun _ => htk⟩
theorem FI.last {n : Int} {V : SvT} {i tk : Nat} (h : FI n V i tk) : (⟨V.nodes, V.l, true⟩ : SvT).promC (lastV V.l).p (lastV V.l).p = 120 ∧ (⟨V.nodes, V.l, true⟩ : SvT).prom (lastV V.l).p (lastV V.l).p = ⟨V.nodes, V.l, true⟩ ∧ (⟨V.nodes, V.l, true⟩ : SvT).promC (lastV V.l).p (n + 1) = 120 ∧ (⟨V.nodes, V.l, true⟩ : SvT).prom (lastV V.l).p (n + 1) = ⟨V.nodes, V.l, true⟩ := by
  have e1 : (⟨V.nodes, V.l, true⟩ : SvT).promC (lastV V.l).p (lastV V.l).p = 120 := by
    unfold SvT.promC
    rw [if_neg (by simp), if_pos (.inr (.inr (.inr (.inr rfl))))]
  have e2 : (⟨V.nodes, V.l, true⟩ : SvT).promC (lastV V.l).p (n + 1) = 120 := by
    have := h.nodes
    unfold SvT.promC
    rw [if_neg (by simp), if_pos (.inr (.inr (.inr (.inl (by show V.nodes < n + 1; omega)))))]
  exact ⟨e1, by unfold SvT.prom; rw [if_neg (by rw [e1]; decide)], e2, by unfold SvT.prom; rw [if_neg (by rw [e2]; decide)]⟩
theorem Nw.calls {At : World → (Nat → Prop) → SvT → Value → Prop} {w0 w w' : World} {K : Nat → Prop} {V V' : SvT} {p : Value} {d : Nat} {ob : Obj} (h : Nw At w0 w K V p) (hd : w.heap[d]? = some ob) (hk : ¬ K d) (he : SvE At w K V' p w') : ∃ K', Nw At w0 w' K' V' p ∧ w'.heap[d]? = some ob ∧ ¬ K' d := by
  obtain ⟨K', h1, h2, h3⟩ := he
  refine ⟨K', ⟨h1, ?_, fun j hj => (h3 j hj).elim (h.new j) (fun hh => Nat.le_trans h.below.size hh)⟩, by rw [h2.block d (lt_of_blk hd) hk]; exact hd, fun hh => (h3 d hh).elim hk (fun hh => by have := lt_of_blk hd; omega)⟩
  exact ⟨h2.os.trans h.below.os, h2.tape.trans h.below.tape, h2.output.trans h.below.output, Nat.le_trans h.below.size h2.size, fun j hj => by rw [h2.block j (Nat.lt_of_lt_of_le hj h.below.size) (fun e => by have := h.new j e; omega)]; exact h.below.block j hj⟩
set_option maxHeartbeats 12800000 in
set_option maxRecDepth 100000 in
theorem ViewFills_walk {At : World → (Nat → Prop) → SvT → Value → Prop} (sv : Serves At) (nodes more : Int) (w : World) :
    Calls Try.prog 3 #[.int .i64 nodes, .int .i64 more] w fun e w' => e = .returned (.bool true) ∧ Below w.heap.size w w' := by
  have HBE : Hid (∀ w, _) := fun w => begins_any sv w
  by_cases hno : nodes < 2 ∨ (¬ nodes < 2 ∧ 5 < nodes) ∨ (¬ nodes < 2 ∧ ¬ 5 < nodes ∧ more < 0) ∨ (¬ nodes < 2 ∧ ¬ 5 < nodes ∧ ¬ more < 0 ∧ 5 < more)
  · rcases hno with h1 | ⟨h1, h2⟩ | ⟨h1, h2, h3⟩ | ⟨h1, h2, h3, h4⟩
    all_goals
      go_enter Try.func3, Try.ntmps3
      go_wp2_with fail
      refine Calls.mono (HBE.out _) ?_
      rintro e w1 ⟨rfl, hb1⟩
      have HB1 : Hid _ := hb1
      clear hb1
      go_wp2_with fail
      go_ret
      exact ⟨rfl, HB1.out⟩
  have h1 : ¬ nodes < 2 := by omega
  have h2 : ¬ 5 < nodes := by omega
  have h3 : ¬ more < 0 := by omega
  have h4 : ¬ 5 < more := by omega
  clear hno
  obtain ⟨m, rfl⟩ : ∃ m : Nat, more = (m : Int) := ⟨more.toNat, by omega⟩
  have HN : Hid (∀ w, _) := fun w => sv.new_ok w nodes (by omega) (by omega)
  have H12 : Hid (2 ≤ nodes ∧ nodes ≤ 5) := ⟨by omega, by omega⟩
  have hnw : IntKind.i64.wrap (nodes + 1) = nodes + 1 := by rw [IntKind.wrap_i64]; omega
  have hmw : IntKind.i64.wrap (400 + (m : Int)) = 400 + (m : Int) := by rw [IntKind.wrap_i64]; omega
  go_enter Try.func3, Try.ntmps3
  go_wp2_with fail
  refine Calls.mono (HBE.out _) ?_
  rintro e w1 ⟨rfl, hb1⟩
  have HB1 : Hid (Below w.heap.size w w1) := hb1
  clear hb1
  go_wp2_with fail
  refine Calls.mono (HN.out _) ?_
  rintro e w2 ⟨sb, K, rfl, g1, g2, g3⟩
  have H2 : Hid (Nw At w w2 K (newV nodes) (.pointer (some ⟨sb, 0, none⟩))) := ⟨g1, trans2 HB1.out g2, fun j hj => Nat.le_trans HB1.out.size (g3 j hj)⟩
  clear g1 g2 g3
  go_wp2_with fail
  have h2' : Nw At w w2 K (newV nodes) (.pointer (some ⟨sb, 0, none⟩)) := H2.out
  obtain ⟨p, hp⟩ : ∃ p, Value.pointer (some ⟨sb, 0, none⟩) = p := ⟨_, rfl⟩
  rw [hp] at h2' ⊢
  have H2p : Hid (Nw At w w2 K (newV nodes) p) := h2'
  clear hp h2' H2 h1 h2 h3
  go_loopw [8, 9] (fun ti i wr => ∃ (q tk : Nat) (K : Nat → Prop) (V : SvT), ti = .int .i64 tk ∧ i = .int .i64 q ∧ q ≤ 400 + m ∧ tk ≤ 400 ∧ Hid (Nw At w wr K V p) ∧ Hid (FI nodes V q tk)) (fun _ i _ => 400 + m - (intOf i).toNat)
  case atStart => exact ⟨0, 0, K, _, rfl, rfl, Nat.zero_le _, Nat.zero_le _, H2p, FI.new H12.out.1 H12.out.2 (sv.ok H2p.out.at')⟩
  case round =>
    clear H2p
    obtain ⟨q, tk, K, V, rfl, rfl, hq, htk, HW, HI⟩ := hrel
    by_cases hlt : q < 400 + m
    · have hqi : (q : Int) < 400 + (m : Int) := by omega
      obtain ⟨t, ht⟩ : ∃ t, lastV V.l = t := ⟨_, rfl⟩
      have HT : Hid (lastV V.l = t) := ht
      clear ht
      go_wp2_with fail
      refine Calls.mono (sv.now wr K V p HW.out.at') ?_
      rintro e w4 ⟨rfl, he4⟩
      obtain ⟨K4, h4⟩ := HW.out.call he4
      rw [HT.out]
      have H4 : Hid (Nw At w w4 K4 V p) := h4
      clear he4 h4 HW
      go_wp2_with fail
      obtain ⟨w5, hw5⟩ : ∃ w5, w4.alloc (.cells #[.int .i64 t.n, .int .i64 t.p, .int .i64 t.b] 28) = w5 := ⟨_, rfl⟩
      obtain ⟨d, hd⟩ : ∃ d, w4.heap.size = d := ⟨_, rfl⟩
      have H5 : Hid (Nw At w w5 K4 V p) := H4.out.on sv (by rw [← hw5]; exact (Below.refl _ _).alloc (Nat.le_refl _) _)
      have hbx : w5.heap[d]? = some (.cells #[.int .i64 t.n, .int .i64 t.p, .int .i64 t.b] 28 (0, 0)) := by rw [← hw5, ← hd]; exact heap_alloc_new _ _
      have hkd : ¬ K4 d := fun hk => by have := sv.lt H4.out.at' d hk; omega
      rw [hw5, hd]
      clear hw5 hd H4
      refine Calls.mono (sv.settle w5 K4 V p t.n t.p H5.out.at') ?_
      rintro e w6 ⟨rfl, he6⟩
      obtain ⟨K6, h6, hb6, hk6⟩ := H5.out.calls hbx hkd he6
      have hst := HI.out.sett
      rw [HT.out] at hst
      rw [hst.1]
      rw [hst.2] at h6
      have H6 : Hid (Nw At w w6 K6 ⟨V.nodes, V.l, true⟩ p) := h6
      obtain ⟨d0, d1, d2⟩ := cells_3 hb6
      clear he6 h6 hb6 hk6 hst H5 hbx hkd
      go_wp2_with fail
      refine Calls.mono (sv.promote w6 K6 ⟨V.nodes, V.l, true⟩ p t.b t.p H6.out.at') ?_
      rintro e w7 ⟨rfl, he7⟩
      obtain ⟨K7, h7⟩ := H6.out.call he7
      clear he7 d0 d1 d2 H6
      by_cases ht4 : tk < 400
      · have hon := HI.out.on ht4
        rw [HT.out] at hon
        rw [hon.1]
        have H7 : Hid _ := h7
        have HI7 : Hid _ := hon.2
        clear hon h7
        go_wp2_with fail
        exact ⟨⟨q + 1, tk + 1, K7, _, by go_num, by go_num, by omega, by omega, H7, HI7⟩, by simp [intOf]; omega⟩
      · obtain ⟨e4, hpc, hfi⟩ := HI.out.full ht4
        rw [HT.out] at hpc hfi
        rw [hpc]
        have H7 : Hid _ := h7
        have HI7 : Hid _ := hfi
        clear hpc hfi h7 ht4
        subst e4
        go_wp2_with fail
        exact ⟨⟨q + 1, 400, K7, _, by go_num, by go_num, by omega, by omega, H7, HI7⟩, by simp [intOf]; omega⟩
    · have hqi : ¬ (q : Int) < 400 + (m : Int) := by omega
      have e4 : tk = 400 := HI.out.many (by omega)
      subst e4
      obtain ⟨t, ht⟩ : ∃ t, lastV V.l = t := ⟨_, rfl⟩
      have HT : Hid (lastV V.l = t) := ht
      clear ht hlt
      go_wp2_with fail
      refine Calls.mono (sv.now wr K V p HW.out.at') ?_
      rintro e w4 ⟨rfl, he4⟩
      obtain ⟨K4, h4⟩ := HW.out.call he4
      rw [HT.out]
      have H4 : Hid (Nw At w w4 K4 V p) := h4
      clear he4 h4 HW
      go_wp2_with fail
      obtain ⟨w5, hw5⟩ : ∃ w5, w4.alloc (.cells #[.int .i64 t.n, .int .i64 t.p, .int .i64 t.b] 28) = w5 := ⟨_, rfl⟩
      obtain ⟨d, hd⟩ : ∃ d, w4.heap.size = d := ⟨_, rfl⟩
      have H5 : Hid (Nw At w w5 K4 V p) := H4.out.on sv (by rw [← hw5]; exact (Below.refl _ _).alloc (Nat.le_refl _) _)
      have hbx : w5.heap[d]? = some (.cells #[.int .i64 t.n, .int .i64 t.p, .int .i64 t.b] 28 (0, 0)) := by rw [← hw5, ← hd]; exact heap_alloc_new _ _
      have hkd : ¬ K4 d := fun hk => by have := sv.lt H4.out.at' d hk; omega
      rw [hw5, hd]
      clear hw5 hd H4
      refine Calls.mono (sv.settle w5 K4 V p t.n t.p H5.out.at') ?_
      rintro e w6 ⟨rfl, he6⟩
      obtain ⟨K6, h6, hb6, hk6⟩ := H5.out.calls hbx hkd he6
      have hst := HI.out.sett
      rw [HT.out] at hst
      rw [hst.1]
      rw [hst.2] at h6
      have H6 : Hid (Nw At w w6 K6 ⟨V.nodes, V.l, true⟩ p) := h6
      have HX6 : Hid (w6.heap[d]? = some (.cells #[.int .i64 t.n, .int .i64 t.p, .int .i64 t.b] 28 (0, 0)) ∧ ¬ K6 d) := ⟨hb6, hk6⟩
      obtain ⟨d0, d1, d2⟩ := cells_3 hb6
      clear he6 h6 hb6 hk6 hst H5 hbx hkd
      have hla := HI.out.last
      rw [HT.out] at hla
      have HLA : Hid _ := hla
      clear hla
      go_wp2_with fail
      refine Calls.mono (sv.promote w6 K6 ⟨V.nodes, V.l, true⟩ p t.p t.p H6.out.at') ?_
      rintro e w7 ⟨rfl, he7⟩
      rw [HLA.out.1]
      rw [HLA.out.2.1] at he7
      obtain ⟨K7, h7, hb7, hk7⟩ := H6.out.calls HX6.out.1 HX6.out.2 he7
      have H7 : Hid (Nw At w w7 K7 ⟨V.nodes, V.l, true⟩ p) := h7
      obtain ⟨d0, d1, d2⟩ := cells_3 hb7
      clear he7 h7 hb7 hk7 HX6
      go_wp2_with fail
      refine Calls.mono (sv.promote w7 K7 ⟨V.nodes, V.l, true⟩ p t.p (nodes + 1) H7.out.at') ?_
      rintro e w8 ⟨rfl, he8⟩
      rw [HLA.out.2.2.1]
      rw [HLA.out.2.2.2] at he8
      obtain ⟨K8, h8⟩ := H7.out.call he8
      have H8 : Hid (Nw At w w8 K8 ⟨V.nodes, V.l, true⟩ p) := h8
      have HL4 : Hid (V.l.length = 401) := HI.out.len
      clear he8 h8 H7 H6
      go_wp2_with
        (go_at_call 14; refine Calls.mono (sv.all w8 K8 ⟨V.nodes, V.l, true⟩ p H8.out.at') ?_; rintro e w9 ⟨u, K9, rfl, hu, h9, hc9, hn9⟩
         obtain ⟨ua, uc, rfl, -⟩ := RowAt.form hu
         rw [show (⟨V.nodes, V.l, true⟩ : SvT).l.length = 401 from HL4.out]
         obtain ⟨K10, h10⟩ := H8.out.call ⟨K9, h9, hc9, hn9⟩
         have H10 : Hid (Nw At w w9 K10 ⟨V.nodes, V.l, true⟩ p) := h10
         clear hu h9 hc9 hn9 h10)
      go_ret
      exact ⟨rfl, H10.out.below⟩
end Go.Proofs.Ytlbhnlpdijhmlaa
