/-
  heraldlaw16: plays, Send.
-/
import Derived.Test.YtfcobhgjkibdgaaLPlayC
import Derived.Laws.AppendOwnNone
namespace Go.Proofs.Ytfcobhgjkibdgaa
open Go.RowKit
set_option linter.unusedVariables false
set_option linter.unusedSimpArgs false

/-- A whole row behind a list. -/
theorem wpList_rowN {tS tE sz bt : Nat} {z : Value} (hu : Try.prog.underlying tS = some (.slice tE)) (hinfo : (Try.prog.info? tE).map (fun i => (i.zero, i.size, i.bytes)) = some (some z, sz, bt)) (hzs : z.cells.size = sz) (h0 : 0 < sz)
    {w : World} {ops : Array Oper} {rest : List Oper} {o : Oper} {act : Act} {Q : Exit → Act → World → Prop} (hgd : o.guard = none) (s x : Operand) (ho : o.op = .call { callee := .builtin .append, args := #[s, x], argTypes := #[tS, tS] })
    (base : Nat) (v : Value) (n : Nat) (xs : List Value) (hs : act.eval s = v) (hown : w.ownsRow base tE sz v n xs) (B : Nat) (u : Value) (m : Nat) (ys : List Value) (hx : act.eval x = u) (hsrc : w.ownsRow B tE sz u m ys) (h1 : ∀ y ∈ ys, y.oneCell' = true)
    (hb1 : n + m ≤ maxLen) (hb2 : (n + m) * bt ≤ 140737488355328) (hB : base ≤ w.heap.size)
    (h : ∀ v' w', w'.ownsRow base tE sz v' (n + m) (xs ++ ys) → w.grownBy w' v.ownBlock → (v'.ownBlock = v.ownBlock ∨ v'.ownBlock = some w.heap.size) → wpList Try.prog ops Q rest (act.put o.dst v') w') : wpList Try.prog ops Q (o :: rest) act w := by
  cases hi : Try.prog.info? tE with
  | none => rw [hi] at hinfo; cases hinfo
  | some i0 =>
    rw [hi] at hinfo
    simp only [Option.map_some, Option.some.injEq, Prod.mk.injEq] at hinfo
    rcases hsrc.2 with ⟨rfl, hm⟩ | ⟨g, cap, cur, rfl, _, hg, hn, hc, hsz, ht⟩
    · subst hm
      have hys : ys = [] := List.eq_nil_of_length_eq_zero (by rw [hsrc.1]; simp)
      subst hys
      refine wpList_append_own_none hgd s x tS ho base tE i0 sz hu hi _ _ _ hs hown hx ?_
      exact h v w (by simpa using hown) ⟨rfl, rfl, rfl, Nat.le_refl _, fun _ _ _ => rfl⟩ (.inl rfl)
    · refine wpList_append_own_at _ hgd s x tS ho base tE i0 _ sz bt hu hi hinfo.1 hinfo.2.1 hinfo.2.2 hzs h0 v n xs hs hown ⟨g, 0, none⟩ m cap ys hx (by rw [hsrc.1]) (fun j u hj => ?_) h1 hb1 hb2 hB ?_
      · rw [addr_add, Nat.zero_add]
        exact cell_n (cap := cap) (g := g) ⟨hsrc.1, .inr ⟨g, cap, cur, rfl, Nat.zero_le _, hg, hn, hc, hsz, ht⟩⟩ hj
      · intro v' w' ho' hg' _ hat'
        exact h v' w' ho' hg' hat'
theorem row_cut0 {w : World} {base e sz n c : Nat} {a : Option Addr} {xs : List Value} (h : w.ownsRow base e sz (.slice a n c) n xs) : w.ownsRow base e sz (.slice a 0 c) 0 [] := by
  rcases h.2 with ⟨h0, _⟩ | ⟨g, cap, cur, hv, hb, hg, h1, h2, h3, h4⟩
  · cases h0
    exact owns_nil _ _ _ _
  · cases hv
    simpa using row_cut h (Nat.zero_le _)
theorem ms_one (l : List MsT) : ∀ y ∈ l.flatMap MsT.cells, y.oneCell' = true := by
  intro y hy
  obtain ⟨m, _, hm⟩ := List.mem_flatMap.1 hy
  simp only [MsT.cells, List.mem_cons, List.not_mem_nil, or_false] at hm
  rcases hm with rfl | rfl | rfl <;> rfl
/-- The desk is turned. -/
theorem Sit.turn {At : World → (Nat → Prop) → LnT → Value → Prop} (sv : Lines At) {w w' : World} {K : Nat → Prop} {L : LnT} {p v : Value} {D : Nat} {rv rv' : Value} (h : Sit At w K L p v D rv) (hc : Chg w w' (fun j => j = D ∨ rv.ownBlock = some j)) (hd : w'.heap[D]? = some (.cells #[rv'] 59 (0, 0))) (hr : ∃ n xs, w'.ownsRow 0 23 3 rv' n xs) (hn : ∀ j, rv'.ownBlock = some j → rv.ownBlock = some j ∨ w.heap.size ≤ j) : Sit At w' K L p v D rv' := by
  obtain ⟨n, xs, hr0⟩ := h.row
  refine ⟨sv.keep h.at' ⟨hc.size, fun b hb hk => hc.block b hb (fun e => e.elim (fun e => h.nkD (by rw [← e]; exact hk)) (fun e => h.nkR b e hk))⟩, h.ok, row_chg h.ref hc (fun j hj e => ?_), hd, hr, h.nkD, fun j hj hk => (hn j hj).elim (fun e => h.nkR j e hk) (fun e => by have := sv.lt h.at' j hk; omega)⟩
  obtain ⟨cur, hcur⟩ := row_kind h.ref j hj
  rcases e with e | e
  · subst e
    rw [h.desk] at hcur
    simp at hcur
  · obtain ⟨c2, hc2⟩ := row_kind hr0 j e
    rw [hc2] at hcur
    simp at hcur
/-- What is handed in while it is looked at and written over. -/
structure SpI (w0 w : World) (k n : Nat) (c : Nat) (ys : List Value) (q : Nat) : Prop where
  row : ∃ xs, w.ownsRow 0 23 3 (.slice (some ⟨k, 0, none⟩) n c) n xs ∧ ∀ j, q * 3 ≤ j → xs[j]? = ys[j]?
  chg : Chg w0 w (fun j => j = k)
theorem SpI.start {w : World} {k n c : Nat} {ys : List Value} (h : w.ownsRow 0 23 3 (.slice (some ⟨k, 0, none⟩) n c) n ys) : SpI w w k n c ys 0 := ⟨⟨ys, h, fun _ _ => rfl⟩, Chg.refl _ _⟩
theorem SpI.next {w0 w : World} {k n c q : Nat} {ys : List Value} {x0 x1 x2 : Value} (h : SpI w0 w k n c ys q) : SpI w0 (((w.setCell ⟨k, q * 3, none⟩ x0).setCell ⟨k, q * 3 + 1, none⟩ x1).setCell ⟨k, q * 3 + 2, none⟩ x2) k n c ys (q + 1) := by
  obtain ⟨xs, hr, hx⟩ := h.row
  refine ⟨⟨_, row_set (row_set (row_set hr)), fun j hj => ?_⟩, ((h.chg.trans (Chg.set _ ⟨k, q * 3, none⟩ _)).trans (Chg.set _ ⟨k, q * 3 + 1, none⟩ _)).trans (Chg.set _ ⟨k, q * 3 + 2, none⟩ _)⟩
  rw [List.getElem?_set_ne (by omega), List.getElem?_set_ne (by omega), List.getElem?_set_ne (by omega)]
  exact hx j (by omega)
theorem SpI.drewN {w0 w : World} {k n c q m : Nat} {ys : List Value} (h : SpI w0 w k n c ys q) : SpI w0 (w.drewN m) k n c ys q := by
  obtain ⟨xs, hr, hx⟩ := h.row
  exact ⟨⟨xs, owns_below hr (below_drewN (Below.refl _ _) _), hx⟩, h.chg.trans (Chg.of_below (below_drewN (Below.refl _ _) _) _)⟩
set_option maxHeartbeats 6400000 in
set_option maxRecDepth 100000 in
theorem plays_send {At : World → (Nat → Prop) → LnT → Value → Prop} (sv : Lines At) (w : World) (K : Nat → Prop) (L : LnT) (p v : Value) (D : Nat) (rv : Value) (on n a t : Int) (ms : List MsT) (ma : Option Addr) (mn mc : Nat) (h : Sit At w K L p v D rv) (hg : L.gv + 300 ≤ MaxG) (P : Nat → Prop) (hms : MssAt w P (.slice ma mn mc) ms) :
    Calls Try.prog 24 #[p, lnV v L.gv L.no, StL.val ⟨1, on, ms, n, a, t⟩ (.slice ma mn mc), .pointer (some ⟨D, 0, none⟩)] w fun e w' => ∃ K' v' rv', e = .returned (.tuple #[lnV v' (L.send (shL ms)).1.gv (L.send (shL ms)).1.no, .bool true]) ∧ PlE At w K p D rv (L.send (shL ms)).1 w' K' v' rv' := by
  obtain ⟨va, vc, rfl, _⟩ := fl_form h.ref
  obtain ⟨qn, hqn⟩ : ∃ z, L.fl.length = z := ⟨_, rfl⟩
  have HS : Hid (Sit At w K L p (.slice va qn vc) D rv) := by rw [← hqn]; exact h
  have HQ : Hid (L.fl.length = qn) := hqn
  rw [hqn]
  obtain ⟨hA, hB, hC, hbel⟩ := three_blocks (w := w) (t := 56) (cs := #[.slice va qn vc, .int .i64 L.gv, .bool L.no]) (t' := 47) (cs' := #[.int .i64 1, .int .i64 on, .slice ma mn mc, .int .i64 n, .int .i64 a, .int .i64 t]) (t'' := 56) (cs'' := #[.slice none 0 0, .int .i64 0, .bool false])
  obtain ⟨W, hW⟩ : ∃ W, (((w.alloc (.cells #[.slice va qn vc, .int .i64 L.gv, .bool L.no] 56)).alloc (.cells #[.int .i64 1, .int .i64 on, .slice ma mn mc, .int .i64 n, .int .i64 a, .int .i64 t] 47)).alloc (.cells #[.slice none 0 0, .int .i64 0, .bool false] 56)) = W := ⟨_, rfl⟩
  rw [hW] at hA hB hC hbel
  obtain ⟨g, hgg⟩ : ∃ g, w.heap.size = g := ⟨_, rfl⟩
  have HBW : Hid (Below w.heap.size w W) := hbel
  rw [hgg] at hA hB hC
  have HG : Hid (w.heap.size = g) := hgg
  have HW : Hid (_ = W) := hW
  have HA : Hid (W.heap[g]? = some (.cells #[.slice va qn vc, .int .i64 L.gv, .bool L.no] 56 (0, 0))) := hA
  have HB : Hid (W.heap[g + 1]? = some (.cells #[.int .i64 1, .int .i64 on, .slice ma mn mc, .int .i64 n, .int .i64 a, .int .i64 t] 47 (0, 0))) := hB
  have HC : Hid (W.heap[g + 1 + 1]? = some (.cells #[.slice none 0 0, .int .i64 0, .bool false] 56 (0, 0))) := hC
  have HLT : Hid (∀ j, K j → j < g) := fun j hj => by rw [← hgg]; exact sv.lt h.at' j hj
  have HSH : Hid (∀ w', Below w.heap.size w w' → _) := fun w' hb => short_any ms (.slice ma mn mc) w' P (MssAt.keep hms (Kp.of_below hb _))
  obtain ⟨c0, c1, c2⟩ := cells_3 hA
  obtain ⟨b0, b1, b2, b3, b4, b5⟩ := cells_6b hB
  clear hW hA hB hC hbel hqn h hgg hms
  go_enter Try.func24, Try.ntmps24
  go_upto_region 1 with fail
  rw [HW.out, HG.out]
  go_wp2_with fail
  refine Calls.mono (HSH.out _ HBW.out) ?_
  rintro e w1 ⟨u1, rfl, hu1, hb1⟩
  obtain ⟨ua, uc, rfl, _⟩ := row_form hu1
  obtain ⟨l, hl⟩ : ∃ z, shL ms = z := ⟨_, rfl⟩
  have HLL : Hid (shL ms = l) := hl
  have hl3 : l.length ≤ 300 := by rw [← hl]; exact shL_len ms
  have HL6 : Hid (∀ m ∈ l, m.b.size ≤ 600) := by show ∀ m ∈ l, _; rw [← hl]; exact shL_small ms
  rw [hl] at hu1 ⊢
  obtain ⟨n1, hn1⟩ : ∃ z, l.length = z := ⟨_, rfl⟩
  have HN1 : Hid (l.length = n1) := hn1
  rw [hn1] at hl3 ⊢
  have HU1 : Hid (MsRow w1 0 (.slice ua n1 uc) l ∧ Below W.heap.size W w1) := ⟨by rw [← hn1]; exact ⟨hu1.1, hu1.2.elim .inl (fun ⟨a, b, c, d, _, e⟩ => .inr ⟨a, b, c, d, Nat.zero_le _, e⟩)⟩, hb1⟩
  have HUB : Hid (∀ j, (Value.slice ua n1 uc).ownBlock = some j → g ≤ j) := fun j hj => by
    have h1 := (row_block hu1 j (by rw [hn1]; exact hj)).1
    have h2 := lt_of_blk HA.out
    omega
  have HREF : Hid (∀ w', Below w1.heap.size w1 w' → _) := fun w' hb => refSend_any L l (.slice va qn vc) (.slice ua n1 uc) w' (fun _ => True) (owns_below HS.out.ref (trans2 (trans2 HBW.out hb1) hb)) (ms_row (owns_below HU1.out.1 hb) (fun _ _ => trivial)) HS.out.ok.len (by rw [HN1.out]; unfold MaxG at hg; omega)
  obtain ⟨c0, c1, c2⟩ := cells_3 (kept_block hb1 HA.out)
  clear hu1 hb1 hl hn1
  go_wp2_with fail
  refine Calls.mono (HREF.out _ (Below.refl _ _)) ?_
  rintro e w2 ⟨v2, u2, rfl, hf2, hu2, hb2⟩
  obtain ⟨a2, k2, rfl, _⟩ := fl_form hf2
  obtain ⟨wa, wc2, hw2, _⟩ := row_form hu2
  subst hw2
  obtain ⟨R, hR⟩ : ∃ z, L.send l = z := ⟨_, rfl⟩
  have HR : Hid (L.send l = R) := hR
  have HRL : Hid (R.2.length = n1) := by show _ = _; rw [← hR, send_len, HN1.out]
  rw [hR] at hf2 hu2 ⊢
  obtain ⟨n2, hn2⟩ : ∃ z, R.1.fl.length = z := ⟨_, rfl⟩
  rw [hn2, HRL.out]
  have HF2 : Hid (FlAt w2 (.slice a2 n2 k2) R.1.fl) := by rw [← hn2]; exact hf2
  have HU2 : Hid (InsOwn w2 0 (.slice wa n1 wc2) R.2 ∧ ∀ j, (Value.slice wa n1 wc2).ownBlock = some j → g ≤ j) := by
    rw [← HRL.out]
    refine ⟨⟨hu2.1, hu2.2.elim .inl (fun ⟨a, b, c, d, _, e⟩ => .inr ⟨a, b, c, d, Nat.zero_le _, e⟩)⟩, fun j hj => ?_⟩
    have h1 := (row_block hu2 j hj).1
    have h2 := lt_of_blk HA.out
    have h3 := HU1.out.2.size
    omega
  have HB2 : Hid (Below W.heap.size W w2) := trans2 HU1.out.2 hb2
  have HU12 : Hid (MsRow w2 0 (.slice ua n1 uc) l) := owns_below HU1.out.1 hb2
  clear hf2 hu2 hb2 hR hn2 c0 c1 c2
  obtain ⟨W3, hW3⟩ : ∃ z, w2.alloc (.cells #[.slice a2 n2 k2, .int .i64 R.1.gv, .bool R.1.no] 56) = z := ⟨_, rfl⟩
  obtain ⟨g3, hg3⟩ : ∃ z, w2.heap.size = z := ⟨_, rfl⟩
  have HX3 : Hid (W3.heap[g3]? = some (.cells #[.slice a2 n2 k2, .int .i64 R.1.gv, .bool R.1.no] 56 (0, 0))) := by show _ = _; rw [← hW3, ← hg3]; exact heap_alloc_new _ _
  have hb3 : Below w2.heap.size w2 W3 := by rw [← hW3]; exact (Below.refl _ _).alloc (Nat.le_refl _) _
  have HF3 : Hid (FlAt W3 (.slice a2 n2 k2) R.1.fl) := owns_below HF2.out hb3
  have HB3 : Hid (Below W.heap.size W W3) := trans2 HB2.out hb3
  have HW3 : Hid (_ = W3) := hW3
  have HG3 : Hid (w2.heap.size = g3) := hg3
  have HGE : Hid (g + 1 + 1 < g3) := by show _ < _; rw [← hg3]; exact Nat.lt_of_lt_of_le (lt_of_blk HC.out) HB2.out.size
  clear hW3 hg3 hb3
  obtain ⟨rn, rxs, hrow⟩ := HS.out.row
  obtain ⟨ra, rc, hrv, _⟩ := row_form hrow
  subst hrv
  have HBT : Hid (Below w.heap.size w W3) := trans2 HBW.out HB3.out
  have hrow3 := owns_below hrow HBT.out
  have HS3 : Hid (Sit At W3 K L p (.slice va qn vc) D (.slice ra rn rc)) := HS.out.below sv HBT.out
  have HR3 : Hid (W3.ownsRow 0 23 3 (.slice ra 0 rc) 0 []) := row_cut0 hrow3
  have HU3 : Hid (MsRow W3 0 (.slice ua n1 uc) l) := owns_below HU12.out (by rw [← HW3.out]; exact (Below.refl _ _).alloc (Nat.le_refl _) _)
  have HUA3 : Hid (InsOwn W3 0 (.slice wa n1 wc2) R.2) := owns_below HU2.out.1 (by rw [← HW3.out]; exact (Below.refl _ _).alloc (Nat.le_refl _) _)
  have HOLD : Hid (D < g ∧ ∀ j, (Value.slice ra rn rc).ownBlock = some j → j < g) := ⟨by have := lt_of_blk HS.out.desk; have := HG.out; omega, fun j hj => by have := (row_block hrow j hj).2; have := HG.out; omega⟩
  have hD := cells_1 HS3.out.desk
  have fD := free_1 HS3.out.desk
  clear hrow hrow3
  go_upto_region 6 with fail
  rw [HW3.out, HG3.out]
  go_upto_region 7 with (first
    | (at_builtin; refine wpList_rowN Try.underlying24 Try.info_ms rfl (by decide) rfl _ _ rfl 0 (.slice ra 0 rc) 0 [] rfl HR3.out 0 (.slice ua n1 uc) n1 (l.flatMap MsT.cells) rfl (by have h9 := HU3.out; unfold MsRow at h9; rw [HN1.out] at h9; exact h9) (ms_one l) (by unfold maxLen; omega) (by omega) (Nat.zero_le _) ?_; intro v4 w4 hd4 hg4 ho4))
  rw [Nat.zero_add, List.nil_append] at hd4
  obtain ⟨a4, c4, hv4, _⟩ := row_form hd4
  subst hv4
  have HD4 : Hid (w4.ownsRow 0 23 3 (.slice a4 n1 c4) n1 (l.flatMap MsT.cells)) := hd4
  have HC4 : Hid (Chg W3 w4 (fun j => (Value.slice ra rn rc).ownBlock = some j)) := (Chg.grown hg4).mono (fun k _ e => by cases ra <;> exact e)
  have HO4 : Hid (∀ j, (Value.slice a4 n1 c4).ownBlock = some j → (Value.slice ra rn rc).ownBlock = some j ∨ W3.heap.size ≤ j) := fun j hj => by
    rcases ho4 with e | e
    · rw [e] at hj
      exact .inl (by cases ra <;> exact hj)
    · rw [e] at hj
      cases hj
      exact .inr (Nat.le_refl _)
  clear hd4 hg4 ho4
  go_upto_region 8 with (first
    | (at_builtin; refine wpList_rowN Try.underlying24 Try.info_ms rfl (by decide) rfl _ _ rfl 0 (.slice a4 n1 c4) n1 (l.flatMap MsT.cells) rfl (owns_below HD4.out ((Below.refl _ _).alloc (Nat.le_refl _) _)) 0 (.slice (some ⟨w4.heap.size, 0, none⟩) 2 2) 2 (MsT.cells ⟨777, 0, ⟨#[]⟩⟩ ++ MsT.cells ⟨778, 0, ⟨#[]⟩⟩) rfl (owns_of_blk (heap_alloc_new _ _) rfl (by decide)) (by simp [Value.oneCell']) (by unfold maxLen; omega) (by omega) (Nat.zero_le _) ?_; intro v5 w5 hd5 hg5 ho5))
  obtain ⟨k5, c5, hv5⟩ := row_some (n := n1 + 1) hd5
  subst hv5
  obtain ⟨n5, hn5⟩ : ∃ z, n1 + 1 + 1 = z := ⟨_, rfl⟩
  have hd5 : w5.ownsRow 0 23 3 (.slice (some ⟨k5, 0, none⟩) n5 c5) n5 (l.flatMap MsT.cells ++ (MsT.cells ⟨777, 0, ⟨#[]⟩⟩ ++ MsT.cells ⟨778, 0, ⟨#[]⟩⟩)) := by rw [← hn5]; exact hd5
  have HN5 : Hid (n1 + 1 + 1 = n5) := hn5
  have hlt5 : (n1 : Int) < (n5 : Int) := by omega
  have hlt6 : (n1 : Int) + 1 < (n5 : Int) := by omega
  rw [hn5]
  clear hn5
  have hal : Below w4.heap.size w4 (w4.alloc (.cells (MsT.cells ⟨777, 0, ⟨#[]⟩⟩ ++ MsT.cells ⟨778, 0, ⟨#[]⟩⟩).toArray 23)) := (Below.refl _ _).alloc (Nat.le_refl _) _
  have hc5 : n5 ≤ c5 := by obtain ⟨_, _, hv, hh⟩ := row_form hd5; cases hv; exact hh
  have HC5 : Hid (Chg W3 w5 (fun j => (Value.slice ra rn rc).ownBlock = some j)) := chg_ext (HC4.out.trans (Chg.of_below hal _)) (Chg.grown hg5) (fun j e => HO4.out j e)
  have HO5 : Hid ((Value.slice ra rn rc).ownBlock = some k5 ∨ W3.heap.size ≤ k5) := by
    rcases ho5 with e | e
    · exact HO4.out k5 e.symm
    · cases e
      exact .inr (Nat.le_trans HC4.out.size hal.size)
  have hd5' : w5.heap[D]? = some (.cells #[.slice ra rn rc] 59 (0, 0)) := by
    rw [HC5.out.block D (lt_of_blk HS3.out.desk) (fun e => ?_)]
    · exact HS3.out.desk
    · obtain ⟨n', xs', hr'⟩ := HS3.out.row
      obtain ⟨cur, hcur⟩ := row_kind hr' D e
      have := HS3.out.desk
      rw [hcur] at this
      simp at this
  have HD5 : Hid (w5.ownsRow 0 23 3 (.slice (some ⟨k5, 0, none⟩) n5 c5) n5 (l.flatMap MsT.cells ++ (MsT.cells ⟨777, 0, ⟨#[]⟩⟩ ++ MsT.cells ⟨778, 0, ⟨#[]⟩⟩))) := hd5
  have q5 := cells_1 hd5'
  have f5 := free_1 hd5'
  obtain ⟨W6, hW6⟩ : ∃ z, w5.setCell ⟨D, 0, none⟩ (.slice (some ⟨k5, 0, none⟩) n5 c5) = z := ⟨_, rfl⟩
  have hc6 : Chg w5 W6 (fun j => j = D) := by rw [← hW6]; exact Chg.set w5 ⟨D, 0, none⟩ _
  have hkD : D ≠ k5 := by
    obtain ⟨cur, hcur⟩ := row_kind hd5 k5 rfl
    exact kind_ne hd5' hcur (by decide)
  have HD6 : Hid (W6.ownsRow 0 23 3 (.slice (some ⟨k5, 0, none⟩) n5 c5) n5 (l.flatMap MsT.cells ++ (MsT.cells ⟨777, 0, ⟨#[]⟩⟩ ++ MsT.cells ⟨778, 0, ⟨#[]⟩⟩))) := row_chg hd5 hc6 (fun j hj e => by cases hj; exact hkD e.symm)
  have HC6 : Hid (Chg W3 W6 (fun j => j = D ∨ (Value.slice ra rn rc).ownBlock = some j)) := (HC5.out.mono (fun _ _ e => .inr e)).trans ⟨hc6.os, hc6.tape, hc6.output, hc6.size, fun j hj hn => hc6.block j hj (fun e => hn (.inl e))⟩
  have HS6 : Hid (Sit At W6 K L p (.slice va qn vc) D (.slice (some ⟨k5, 0, none⟩) n5 c5)) := HS3.out.turn sv HC6.out (by rw [← hW6]; exact same_blk hd5' rfl) ⟨_, _, HD6.out⟩ (fun j hj => by cases hj; exact HO5.out)
  have HW6 : Hid (_ = W6) := hW6
  clear hd5 hg5 ho5 hal hd5' hW6 hc6 hkD
  go_upto_region 9 with fail
  rw [HW6.out]
  clear q5 f5 hD fD b0 b1 b2 b3 b4 b5
  have HLE : Hid (n1 ≤ c5) := by show _ ≤ _; have := HN5.out; omega
  have HAT : Hid (MssAt W6 (fun j => j = k5) (.slice (some ⟨k5, 0, none⟩) n1 c5) l) := by
    refine ⟨some ⟨k5, 0, none⟩, c5, by rw [HN1.out], by rw [HN1.out]; exact HLE.out, (fun h => by cases h), .inr ⟨k5, 0, rfl, rfl, (row_block HD6.out k5 rfl).2, fun i x hi => ?_⟩⟩
    have hh : ∀ j y, (MsT.cells x)[j]? = some y → W6.cell? ⟨k5, 0 + i * 3 + j, none⟩ = some y := fun j y hj => by
      refine cell_n HD6.out ?_
      have h1 := flat_at (cells := MsT.cells) (sz := 3) (fun _ => rfl) hi hj
      rw [Nat.zero_add, List.getElem?_append_left (List.getElem?_eq_some_iff.1 h1).1]
      exact h1
    exact ⟨hh 0 _ rfl, hh 1 _ rfl, hh 2 _ rfl⟩
  have HNK : Hid (¬ K k5) := HS6.out.nkR k5 rfl
  have HPRG : Hid (Calls Try.prog 11 #[p, .slice (some ⟨k5, 0, none⟩) n1 c5] W6 _) := sv.send W6 K L p (.slice (some ⟨k5, 0, none⟩) n1 c5) l (fun j => j = k5) HS6.out.at' HS6.out.ok HAT.out (fun j hj => by rw [hj]; exact HNK.out) HL6.out (by rw [HN1.out]; omega) (by rw [HN1.out]; omega)
  have hle : (n1 : Int) ≤ (c5 : Int) := by have := HLE.out; omega
  have hle2 : (n1 : Int) ≤ (n5 : Int) := by omega
  have hlec : n1 ≤ c5 := HLE.out
  go_wp2_with fail
  refine Calls.mono HPRG.out ?_
  rintro e w7 ⟨u7, K7, rfl, hu7, hk7, hE⟩
  obtain ⟨ga, gc, rfl, _⟩ := row_form hu7
  rw [HR.out] at hu7 hE ⊢
  rw [HRL.out]
  have HE : Hid (LnE At W6 K R.1 p w7 K7) := hE
  have HG7 : Hid (∀ j, (Value.slice ga n1 gc).ownBlock = some j → W6.heap.size ≤ j) := by rw [← HRL.out]; exact fun j hj => (row_block hu7 j hj).1
  have HU7 : Hid (InsOwn w7 0 (.slice ga n1 gc) R.2) := by rw [← HRL.out]; exact ⟨hu7.1, hu7.2.elim .inl (fun ⟨a, b, c, d, _, e⟩ => .inr ⟨a, b, c, d, Nat.zero_le _, e⟩)⟩
  have HD7 : Hid (w7.ownsRow 0 23 3 (.slice (some ⟨k5, 0, none⟩) n5 c5) n5 (l.flatMap MsT.cells ++ (MsT.cells ⟨777, 0, ⟨#[]⟩⟩ ++ MsT.cells ⟨778, 0, ⟨#[]⟩⟩))) := row_chg HD6.out hE.chg (fun j hj hk => by cases hj; exact HNK.out hk)
  have HFL : Hid ((l.flatMap MsT.cells).length = n1 * 3) := by show _ = _; rw [flat_len (cells := MsT.cells) (sz := 3) (fun _ => rfl), HN1.out]
  have s7 : w7.cell? ⟨k5, n1 * 3, none⟩ = some (.int .i64 777) := cell_n HD7.out (by rw [List.getElem?_append_right (by rw [HFL.out]; exact Nat.le_refl _), HFL.out, Nat.sub_self]; rfl)
  have s8 : w7.cell? ⟨k5, (n1 + 1) * 3, none⟩ = some (.int .i64 778) := cell_n HD7.out (by rw [List.getElem?_append_right (by rw [HFL.out]; omega), HFL.out, show (n1 + 1) * 3 - n1 * 3 = 3 by omega]; rfl)
  have HSP : Hid (SpI w7 w7 k5 n5 c5 (l.flatMap MsT.cells ++ (MsT.cells ⟨777, 0, ⟨#[]⟩⟩ ++ MsT.cells ⟨778, 0, ⟨#[]⟩⟩)) 0) := SpI.start HD7.out
  have HSI : Hid (Sit At w7 K7 R.1 p (.slice a2 n2 k2) D (.slice (some ⟨k5, 0, none⟩) n5 c5)) := by
    refine HS6.out.call sv hE _ ?_ (by have h9 := HS.out.ok.send HL6.out; rw [HR.out] at h9; exact h9)
    refine row_chg HF3.out HC6.out (fun j hj e => ?_)
    obtain ⟨cur, hcur⟩ := row_kind HF3.out j hj
    rcases e with e | e
    · subst e
      have := HS3.out.desk
      rw [hcur] at this
      simp at this
    · obtain ⟨n', xs', hr'⟩ := HS3.out.row
      obtain ⟨c2, hc2⟩ := row_kind hr' j e
      rw [hc2] at hcur
      simp at hcur
  clear hu7 hk7 hE
  have HKB : Hid (∀ j, g ≤ j → j < W3.heap.size → ∀ w', Chg w7 w' (fun i => i = k5) → w'.heap[j]? = W3.heap[j]?) := fun j h1 h2 w' hc => by
    have h3 : j < W6.heap.size := Nat.lt_of_lt_of_le h2 HC6.out.size
    have h4 : j < w7.heap.size := Nat.lt_of_lt_of_le h3 HE.out.chg.size
    rw [hc.block j h4 (fun e => ?_), HE.out.chg.block j h3 (fun hk => by have := HLT.out j hk; omega), HC6.out.block j h2 (fun e => ?_)]
    · rcases e with e | e
      · have := HOLD.out.1; omega
      · have := HOLD.out.2 j e; omega
    · have e : j = k5 := e
      rcases HO5.out with e' | e'
      · have := HOLD.out.2 k5 e'; omega
      · omega
  have HKR : Hid (∀ {base e sz n : Nat} {v : Value} {xs : List Value}, W3.ownsRow base e sz v n xs → (∀ j, v.ownBlock = some j → g ≤ j) → ∀ w', Chg w7 w' (fun i => i = k5) → w'.ownsRow base e sz v n xs) := fun hr hj w' hc => owns_same hr (fun k hk => HKB.out k (hj k hk) (row_block hr k hk).2 w' hc)
  have HK5 : Hid (k5 < W6.heap.size) := (row_block HD6.out k5 rfl).2
  have HGB : Hid (∀ w', Chg w7 w' (fun i => i = k5) → InsOwn w' 0 (.slice ga n1 gc) R.2) := fun w' hc => row_chg HU7.out hc (fun j hj e => by have e : j = k5 := e; have := HG7.out j hj; have := HK5.out; omega)
  go_upto_region 11 with fail
  clear s7 s8
  go_wp2_with fail
  go_loopw [16, 17] (fun ok i wr => ∃ q : Nat, ok = .bool true ∧ i = .int .i64 q ∧ q ≤ n1 ∧ Hid (SpI w7 wr k5 n5 c5 (l.flatMap MsT.cells ++ (MsT.cells ⟨777, 0, ⟨#[]⟩⟩ ++ MsT.cells ⟨778, 0, ⟨#[]⟩⟩)) q)) (fun _ i _ => n1 - (intOf i).toNat)
  case atStart => exact ⟨0, rfl, rfl, Nat.zero_le _, HSP⟩
  case round =>
    obtain ⟨q, rfl, rfl, hq, HI⟩ := hrel
    by_cases hlt : q < n1
    · have hqi : (q : Int) < (n1 : Int) := by omega
      have hq5 : (q : Int) < (n5 : Int) := by omega
      obtain ⟨x, hx⟩ : ∃ x, l[q]? = some x := ⟨l[q]'(by rw [HN1.out]; exact hlt), List.getElem?_eq_getElem _⟩
      obtain ⟨ub, ucc, hub, _, y⟩ : ∃ ub ucc, Value.slice ua n1 uc = .slice (some ⟨ub, 0, none⟩) n1 ucc ∧ True ∧ ∀ j u, (MsT.cells x)[j]? = some u → wr.cell? ⟨ub, q * 3 + j, none⟩ = some u := by
        have h9 := HKR.out HU3.out HUB.out wr HI.out.chg
        obtain ⟨a, c, hv, _, _, hr⟩ := row_cells (cells := MsT.cells) (sz := 3) (fun _ => rfl) h9
        rcases hr with h0 | ⟨gb, rfl, _, _, _, hc⟩
        · rw [h0] at hx; cases hx
        · rw [HN1.out] at hv
          refine ⟨gb, c, hv, trivial, fun j u hj => ?_⟩
          have := hc q x hx j u hj
          rw [Nat.zero_add] at this
          exact this
      obtain ⟨rfl, rfl⟩ : ua = some ⟨ub, 0, none⟩ ∧ uc = ucc := by simp only [Value.slice.injEq] at hub; exact ⟨hub.1, hub.2.2⟩
      obtain ⟨xs, hr, hxs⟩ := HI.out.row
      have z : ∀ j u, (MsT.cells x)[j]? = some u → wr.cell? ⟨k5, q * 3 + j, none⟩ = some u := fun j u hj => by
        refine cell_n hr ?_
        have h1 := flat_at (cells := MsT.cells) (sz := 3) (fun _ => rfl) hx hj
        rw [hxs _ (by omega), List.getElem?_append_left (List.getElem?_eq_some_iff.1 h1).1]
        exact h1
      have fz := blk_of hr
      have y0 := y 0 _ rfl
      have y1 := y 1 _ rfl
      have y2 := y 2 _ rfl
      have z0 := z 0 _ rfl
      have z1 := z 1 _ rfl
      have z2 := z 2 _ rfl
      rw [Nat.add_zero] at y0 z0
      have HN : Hid (∀ m, SpI w7 ((((wr.drewN m).setCell ⟨k5, q * 3, none⟩ (.int .i64 99)).setCell ⟨k5, q * 3 + 1, none⟩ (.int .i64 0)).setCell ⟨k5, q * 3 + 2, none⟩ (.string ⟨#[115, 112, 111, 105, 108, 116]⟩)) k5 n5 c5 (l.flatMap MsT.cells ++ (MsT.cells ⟨777, 0, ⟨#[]⟩⟩ ++ MsT.cells ⟨778, 0, ⟨#[]⟩⟩)) (q + 1)) := fun m => (HI.out.drewN (m := m)).next
      clear hx hub y z hr hxs
      go_upto_region 14 with fail
      go_quiet (fail)
      go_wp2_with fail
      go_roundw
      case rel => exact ⟨q + 1, rfl, by go_num, by omega, HN.out _⟩
      case measure => simp [intOf]; omega
    · obtain rfl : q = n1 := by omega
      have hge : ¬ (q : Int) < (q : Int) := by omega
      have hgw : g3 < W3.heap.size := lt_of_blk HX3.out
      have HX8 : Hid (wr.heap[g3]? = some (.cells #[.slice a2 n2 k2, .int .i64 R.1.gv, .bool R.1.no] 56 (0, 0))) := by
        show _ = _
        rw [HKB.out g3 (by have := HGE.out; omega) hgw wr HI.out.chg]
        exact HX3.out
      have hC3 : W3.heap[g + 1 + 1]? = some (.cells #[.slice none 0 0, .int .i64 0, .bool false] 56 (0, 0)) := kept_block HB3.out HC.out
      have HC8 : Hid (wr.heap[g + 1 + 1]? = some (.cells #[.slice none 0 0, .int .i64 0, .bool false] 56 (0, 0))) := by
        show _ = _
        rw [HKB.out (g + 1 + 1) (by omega) (lt_of_blk hC3) wr HI.out.chg]
        exact hC3
      have HUG : Hid (IntsAt wr (fun _ => True) (.slice ga q gc) R.2) := ins_at (HGB.out wr HI.out.chg) (fun _ _ => trivial)
      have HUW : Hid (IntsAt wr (fun _ => True) (.slice wa q wc2) R.2) := ins_at (HKR.out HUA3.out HU2.out.2 wr HI.out.chg) (fun _ _ => trivial)
      have HSF : Hid (Sit At wr K7 R.1 p (.slice a2 n2 k2) D (.slice (some ⟨k5, 0, none⟩) n5 c5)) := by
        refine HSI.out.turn sv (HI.out.chg.mono (fun j _ e => .inr (by have e : j = k5 := e; rw [e]; rfl))) ?_ (by obtain ⟨xs, hr, _⟩ := HI.out.row; exact ⟨_, xs, hr⟩) (fun j hj => .inl hj)
        rw [HI.out.chg.block D (lt_of_blk HSI.out.desk) (fun e => ?_)]
        · exact HSI.out.desk
        · obtain ⟨cur, hcur⟩ := row_kind HD7.out k5 rfl
          exact kind_ne HSI.out.desk hcur (by decide) e
      have HCF : Hid (Chg w wr (fun j => K j ∨ j = D ∨ (Value.slice ra rn rc).ownBlock = some j)) := by
        have h1 : Chg w W6 (fun j => K j ∨ j = D ∨ (Value.slice ra rn rc).ownBlock = some j) := (Chg.of_below HBT.out _).trans (HC6.out.mono (fun j _ e => .inr e))
        have h2 := h1.trans (HE.out.chg.mono (fun j _ e => .inl e))
        refine chg_ext h2 HI.out.chg (fun j e => ?_)
        have e : j = k5 := e
        rw [e]
        exact HO5.out.elim (fun e => .inl (.inr (.inr e))) (fun e => .inr (Nat.le_trans HBT.out.size e))
      have HK7 : Hid (¬ K7 (g + 1 + 1)) := fun hk => (HE.out.new _ hk).elim (fun hk => by have := HLT.out _ hk; omega) (fun hh => by have h1 := lt_of_blk hC3; have h2 := HC6.out.size; omega)
      have HIS : Hid (R.2.length ≤ 1000000) := by show _ ≤ _; rw [HRL.out]; omega
      have HSW : Hid (∀ w'' w', Below wr.heap.size wr w'' → But (g + 1 + 1) w'' w' → w'.cell? ⟨g3, 0, none⟩ = some (.slice a2 n2 k2) ∧ w'.cell? ⟨g3, 1, none⟩ = some (.int .i64 R.1.gv) ∧ w'.cell? ⟨g3, 2, none⟩ = some (.bool R.1.no)) := fun w'' w' hb hb' => cells_3 (hb'.blk (kept_block hb HX8.out) (by have := HGE.out; omega))
      have HCW : Hid (∀ w'', Below wr.heap.size wr w'' → w''.heap[g + 1 + 1]? = some (.cells #[.slice none 0 0, .int .i64 0, .bool false] 56 (0, 0))) := fun w'' hb => kept_block hb HC8.out
      have hgx : g + 1 + 1 < wr.heap.size := lt_of_blk HC8.out
      have hgy := HGE.out
      obtain ⟨c0, c1, c2⟩ := cells_3 HX8.out
      clear hgw hC3
      go_wp2_with fail
      go_region_held3 (fun w' => w'.cell? ⟨g3, 0, none⟩ = some (.slice a2 n2 k2) ∧ w'.cell? ⟨g3, 1, none⟩ = some (.int .i64 R.1.gv) ∧ w'.cell? ⟨g3, 2, none⟩ = some (.bool R.1.no))
        (first
        | (refine HSW.out w8 _ HB8.out ?_; repeat (first | exact But.refl _ _ | refine But.drew ?_ | refine But.set ?_))
        | (refine HSW.out wr _ (Below.refl _ _) ?_; repeat (first | exact But.refl _ _ | refine But.drew ?_ | refine But.set ?_))
        | go_keep)
        (first
        | (go_at_call 26
           refine (ints_same R.2 _ _ _ _ _ (IntsAt.keep HUG.out (Kp.of_below (below_drew (Below.refl _ _)) _)) (IntsAt.keep HUW.out (Kp.of_below (below_drew (Below.refl _ _)) _)) HIS.out).mono ?_
           rintro e w8 ⟨rfl, hb8⟩
           have HB8 : Hid (Below wr.heap.size wr w8) := of_drew hb8
           obtain ⟨q0, q1, q2⟩ := cells_3 (HCW.out _ HB8.out)
           have f8 := free_of (HCW.out _ HB8.out)
           clear hb8))
      all_goals
        go_wp2_with fail
        have hcB := HCW.out _ HB8.out
        have hS8 := HSF.out.below sv HB8.out
        have hf : ∀ x0 x1 x2, PlE At w K p D (.slice ra rn rc) R.1 (put_3 w8 (g + 1 + 1) x0 x1 x2) K7 (.slice a2 n2 k2) (.slice (some ⟨k5, 0, none⟩) n5 c5) := fun x0 x1 x2 => by
          refine ⟨hS8.box sv (((But.refl _ _).set).set).set (chg_put3 w8 (g + 1 + 1) _ _ _) (fun c => ⟨?_, ?_, ?_⟩) HK7.out, ?_, fun j hj => (HE.out.new j hj).elim .inl (fun hh => .inr (Nat.le_trans HBT.out.size (Nat.le_trans HC6.out.size hh))), fun j hj => ?_⟩
          · rw [hcB]; simp
          · rw [hcB]; simp
          · rw [hcB]; simp
          · exact chg_ext (HCF.out.trans (Chg.of_below HB8.out _)) (chg_put3 w8 (g + 1 + 1) _ _ _) (fun j e => .inr (by have e : j = g + 1 + 1 := e; have := HG.out; omega))
          · cases hj
            exact HO5.out.elim .inl (fun e => .inr (Nat.le_trans HBT.out.size e))
        have e1 := HLL.out
        have e2 := HR.out
        subst e1
        subst e2
        exact bodyPost_ret (results_cell_tmp rfl _ _ (g + 1 + 1) 56 _ (0, 0) _ _ rfl rfl (fill_3 hcB) Try.underlying56 rfl (by kernel_rfl)) rfl ⟨K7, _, _, rfl, hf _ _ _⟩
end Go.Proofs.Ytfcobhgjkibdgaa
