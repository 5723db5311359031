/-
  view: Promote.
-/
import Derived.Test.YtlbhnlpdijhmlaaVSrv4
import Derived.Test.YtlbhnlpdijhmlaaVDid
namespace Go.Proofs.Ytlbhnlpdijhmlaa
open Go.RowKit Go.MuLone
set_option linter.unusedVariables false
set_option linter.unusedSimpArgs false

theorem step_append_own {P : Program} {ops : Array Oper} {o : Oper} {a : Act} {w : World} {K : Act → World → Prop} {Q : Exit → Act → World → Prop} {E : Prop}
    (hg : o.guard = none) (s x : Operand) (t : TypeId) (hop : o.op = Op.call { callee := Callee.builtin Builtin.append, args := #[s, x], argTypes := #[t, t] })
    (base : Nat) (e : TypeId) (i : TypeInfo) (z : Value) (size bytes : Nat) (h1 : P.underlying t = some (.slice e)) (h2 : P.info? e = some i) (h3 : i.zero = some z) (h4 : i.size = size) (h5 : i.bytes = bytes) (h6 : z.cells.size = size) (h7 : 0 < size)
    (v : Value) (n : Nat) (xs : List Value) (hs : a.eval s = v) (hown : w.ownsRow base e size v n xs)
    (ad : Addr) (m c : Nat) (news : List Value) (hx : a.eval x = .slice (some ad) m c) (hn : news.length = m * size) (hc : ∀ j u, news[j]? = some u → w.cell? (ad.add j) = some u) (h1c : ∀ u ∈ news, u.oneCell' = true)
    (b1 : n + m ≤ maxLen) (b2 : (n + m) * bytes ≤ 140737488355328) (hbase : base ≤ w.heap.size)
    (hK : ∀ v' w', w'.ownsRow base e size v' (n + m) (xs ++ news) → w.grownBy w' v.ownBlock → (v'.ownBlock = v.ownBlock ∨ v'.ownBlock = some w.heap.size) → K (a.put o.dst v') w') :
    if Region.wanted o (yielded ops a.tmps) = true then Oper.wp P o a w K Q else E := by
  have hw : Region.wanted o (yielded ops a.tmps) = true := by simp [Region.wanted, hg]
  rw [if_pos hw]
  obtain ⟨v', w', hr, g2, g3, _, g5⟩ := run_append_own_at (P := P) w base t o.type e i z size bytes h1 h2 h3 h4 h5 h6 h7 v n xs hown ad m c news hn hc h1c b1 b2 hbase
  unfold Oper.wp execOp
  simp only [hop, resolve, invoke, builtin, Sem.run_bind, Sem.run_pure, Result.andThen_ok, List.map_toArray, List.map_cons, List.map_nil, hs, hx, hr]
  exact hK v' w' g2 g3 g5
theorem promp_nil (p q : Int) (w : World) : Calls Try.prog 13 #[.pointer none, .int .i64 p, .int .i64 q] w fun e w' => e = .returned (.int .i64 121) ∧ w' = w := by
  go_enter_defers Try.func13, Try.ntmps13
  go_wp2_with (go_at_call 24; refine (isNone_nil _).mono ?_; rintro e w1 ⟨rfl, rfl⟩)
  exact ⟨_, results_tmp rfl _ _ _, rfl, rfl⟩
theorem SvT.prom_un {V : SvT} (h : V.set = false) (p q : Int) : V.promC p q = 121 ∧ V.prom p q = V := by
  have e : V.promC p q = 121 := by unfold SvT.promC; rw [if_pos h]
  exact ⟨e, by unfold SvT.prom; rw [if_neg (by rw [e]; decide)]⟩
/-- What Promote leaves. -/
def PrE (w : World) (b : Nat) (V : SvT) (v : Value) (w' : World) : Prop := ∃ v', SrvAt w' b 0 V v' ∧ Chg w w' (fun j => j = b ∨ v.ownBlock = some j) ∧ ∀ j, v'.ownBlock = some j → v.ownBlock = some j ∨ w.heap.size ≤ j
theorem PrE.same {w w' : World} {b : Nat} {V : SvT} {v : Value} (h : SrvAt w' b 0 V v) (hc : Chg w w' (fun j => j = b)) : PrE w b V v w' := ⟨v, h, hc.mono (fun _ _ h => .inl h), fun _ h => .inl h⟩
set_option maxHeartbeats 3200000 in
set_option maxRecDepth 100000 in
theorem promp_no (b : Nat) (V : SvT) (v : Value) (p q : Int) (w : World) (h : SrvAt w b 0 V v) (hno : V.promC p q ≠ 0) :
    Calls Try.prog 13 #[.pointer (some ⟨b, 0, none⟩), .int .i64 p, .int .i64 q] w fun e w' => e = .returned (.int .i64 (V.promC p q)) ∧ PrE w b (V.prom p q) v w' := by
  have HS : Hid (SrvAt w b 0 V v) := h
  have HE : Hid (V.prom p q = V) := by show _ = _; unfold SvT.prom; rw [if_neg hno]
  by_cases h0 : V.nodes = 0
  · have HC : Hid (V.promC p q = 121) := (SvT.prom_un (h.ok.none h0).2 p q).1
    have HN : Hid (V.nodes == 0) := by show _ = true; simpa using h0
    clear h h0 hno
    go_enter_defers Try.func13, Try.ntmps13
    go_wp2_with (go_at_call 24; refine (isNone_any b 0 V v _ HS.out).mono ?_; rintro e w1 ⟨rfl, rfl⟩; rw [HN.out])
    exact ⟨_, results_tmp rfl _ _ _, by rw [HC.out]; rfl, by rw [HE.out]; exact PrE.same HS.out (Chg.refl _ _)⟩
  · have HN : Hid ((V.nodes == 0) = false) := by show _ = false; simpa using h0
    have hl := h.locked 1
    have hMF := mayFollow_any b 1 V v p q _ hl (h.ok.some h0)
    have hx := hl.box
    obtain ⟨W, hW⟩ : ∃ W, w.setCell ⟨b, 1, none⟩ (.int .i32 1) = W := ⟨_, rfl⟩
    have HW : Hid (w.setCell ⟨b, 1, none⟩ (.int .i32 1) = W) := hW
    have HCW : Hid (Chg w W (fun j => j = b)) := by show Chg _ _ _; rw [← hW]; exact Chg.set _ _ _
    rw [hW] at hl hx hMF
    have HL : Hid (SrvAt W b 1 V v) := hl
    have c4 := (cells_5 hx).2.2.2.2
    by_cases hs : V.set = false
    · have HC : Hid (V.promC p q = 121) := (SvT.prom_un hs p q).1
      rw [hs] at c4
      clear h h0 hno hl hx hW hMF hs
      go_enter_defers Try.func13, Try.ntmps13
      go_wp2_with (first
        | (go_at_call 24; refine (isNone_any b 0 V v _ HS.out).mono ?_; rintro e w1 ⟨rfl, hw1⟩; subst hw1; rw [HN.out])
        | (go_at_call 25; refine (lock_free Try.muLib ⟨b, 1, none⟩ _ HS.out.lock (HS.out.free 1)).mono ?_; rintro e w2 ⟨rfl, hw2⟩; rw [HW.out] at hw2; subst hw2))
      refine leaves_cons (f := 26) (args := #[.pointer (some ⟨b, 1, none⟩)]) (by simp) (by simp [go_sem]) ?_
      refine (unlock_deferred Try.muLib ⟨b, 1, none⟩ .returning _ HL.out.lock (HL.out.free 1)).mono ?_
      rintro e u' w'' ⟨rfl, rfl, rfl⟩
      exact ⟨_, results_tmp rfl _ _ _, by rw [HC.out]; rfl, by rw [HE.out]; exact PrE.same (HL.out.locked 0) (HCW.out.trans (Chg.set _ _ _))⟩
    · have hs' : V.set = true := by simpa using hs
      rw [hs'] at c4
      obtain ⟨r, hr⟩ : ∃ r, decide (¬ (p = 0 ∨ (p ≠ (lastV V.l).p ∧ p ≠ (lastV V.l).b) ∨ q < 0 ∨ V.nodes < q ∨ p = q)) = r := ⟨_, rfl⟩
      have HMF : Hid _ := hMF
      rw [hr] at HMF
      cases r with
      | false =>
        have HC : Hid (V.promC p q = 120) := by
          show _ = _
          unfold SvT.promC
          rw [if_neg hs, if_pos (Classical.byContradiction (of_decide_eq_false hr))]
        clear h h0 hno hl hx hW hMF hs hs' hr
        go_enter_defers Try.func13, Try.ntmps13
        go_wp2_with (first
          | (go_at_call 24; refine (isNone_any b 0 V v _ HS.out).mono ?_; rintro e w1 ⟨rfl, hw1⟩; subst hw1; rw [HN.out])
          | (go_at_call 25; refine (lock_free Try.muLib ⟨b, 1, none⟩ _ HS.out.lock (HS.out.free 1)).mono ?_; rintro e w2 ⟨rfl, hw2⟩; rw [HW.out] at hw2; subst hw2)
          | (go_at_call 29; refine Calls.mono HMF.out ?_; rintro e w3 ⟨rfl, hb3⟩
             have HB3 : Hid (Below w2.heap.size w2 w3) := hb3
             clear hb3))
        have h4 := HL.out.below HB3.out
        refine leaves_cons (f := 26) (args := #[.pointer (some ⟨b, 1, none⟩)]) (by simp) (by simp [go_sem]) ?_
        refine (unlock_deferred Try.muLib ⟨b, 1, none⟩ .returning _ h4.lock (h4.free 1)).mono ?_
        rintro e u' w'' ⟨rfl, rfl, rfl⟩
        exact ⟨_, results_tmp rfl _ _ _, by rw [HC.out]; rfl, by rw [HE.out]; exact PrE.same (h4.locked 0) ((HCW.out.trans (Chg.of_below HB3.out _)).trans (Chg.set _ _ _))⟩
      | true =>
        have hr' := hr
        simp only [decide_eq_true_eq] at hr'
        have hc3 : V.promC p q = if 401 ≤ V.l.length then 3 else 0 := by
          unfold SvT.promC
          rw [if_neg hs, if_neg hr']
        have h4 : 401 ≤ V.l.length := Classical.byContradiction fun h => hno (by rw [hc3, if_neg h])
        have HC : Hid (V.promC p q = 3) := by show _ = _; rw [hc3, if_pos h4]
        obtain ⟨a, c, rfl, -⟩ := RowAt.form (vws_row h.row (S := fun _ => True) (fun _ _ => trivial))
        obtain ⟨n, hn⟩ : ∃ n, V.l.length = n := ⟨_, rfl⟩
        have hle := h.ok.len
        have HCC : Hid (∀ w', Below W.heap.size W w' → w'.cell? ⟨b, 3, none⟩ = some (.slice a n c)) := fun w' hb => by
          have := (cells_5 (hl.below hb).box).2.2.2.1
          rw [hn] at this
          exact this
        rw [hn] at h4 hle
        clear h h0 hno hl hx hW hMF hs hs' hr hr' hc3 hn
        go_enter_defers Try.func13, Try.ntmps13
        go_wp2_with (first
          | (go_at_call 24; refine (isNone_any b 0 V _ _ HS.out).mono ?_; rintro e w1 ⟨rfl, hw1⟩; subst hw1; rw [HN.out])
          | (go_at_call 25; refine (lock_free Try.muLib ⟨b, 1, none⟩ _ HS.out.lock (HS.out.free 1)).mono ?_; rintro e w2 ⟨rfl, hw2⟩; rw [HW.out] at hw2; subst hw2)
          | (go_at_call 29; refine Calls.mono HMF.out ?_; rintro e w3 ⟨rfl, hb3⟩
             have HB3 : Hid (Below w2.heap.size w2 w3) := hb3
             have c3 := HCC.out _ hb3
             clear hb3))
        have h4 := HL.out.below HB3.out
        refine leaves_cons (f := 26) (args := #[.pointer (some ⟨b, 1, none⟩)]) (by simp) (by simp [go_sem]) ?_
        refine (unlock_deferred Try.muLib ⟨b, 1, none⟩ .returning _ h4.lock (h4.free 1)).mono ?_
        rintro e u' w'' ⟨rfl, rfl, rfl⟩
        exact ⟨_, results_tmp rfl _ _ _, by rw [HC.out]; rfl, by rw [HE.out]; exact PrE.same (h4.locked 0) ((HCW.out.trans (Chg.of_below HB3.out _)).trans (Chg.set _ _ _))⟩
end Go.Proofs.Ytlbhnlpdijhmlaa
