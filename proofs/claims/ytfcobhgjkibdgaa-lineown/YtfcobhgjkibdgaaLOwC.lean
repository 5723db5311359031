/-
  line: own.go: copies; one step.
-/
import Derived.Test.YtfcobhgjkibdgaaLOwB
import Derived.Test.YtfcobhgjkibdgaaLScript
namespace Go.Proofs.Ytfcobhgjkibdgaa
open Go.RowKit Go.Maps
set_option linter.unusedVariables false
set_option linter.unusedSimpArgs false

theorem wpList_app_row {w : World} {ops : Array Oper} {rest : List Oper} {o : Oper} {act : Act} {Q : Exit → Act → World → Prop} (hgd : o.guard = none) (s x : Operand) (ho : o.op = .call { callee := .builtin .append, args := #[s, x], argTypes := #[28, 28] })
    (hs : act.eval s = .slice none 0 0) (gx n c : Nat) (ys : List Value) (hx : act.eval x = .slice (some ⟨gx, 0, none⟩) n c) (hr : w.ownsRow 0 3 1 (.slice (some ⟨gx, 0, none⟩) n c) n ys) (h1 : ∀ y ∈ ys, y.oneCell' = true) (hn : 0 < n) (hn2 : n ≤ 1000000)
    (h : ∀ g cap w', w'.ownsRow w.heap.size 3 1 (.slice (some ⟨g, 0, none⟩) n cap) n ys → w.heap.size ≤ g → w.grownBy w' none → wpList Try.prog ops Q rest (act.put o.dst (.slice (some ⟨g, 0, none⟩) n cap)) w') : wpList Try.prog ops Q (o :: rest) act w := by
  cases hi : Try.prog.info? 3 with
  | none => have := Try.info_int; rw [hi] at this; cases this
  | some i0 =>
    have hinfo := Try.info_int
    rw [hi] at hinfo
    simp only [Option.map_some, Option.some.injEq, Prod.mk.injEq] at hinfo
    refine wpList_append_any w hgd s x 28 ho w.heap.size 3 i0 _ 1 8 Try.underlying28 hi hinfo.1 hinfo.2.1 hinfo.2.2 rfl (by omega) (.slice none 0 0) 0 [] hs (World.ownsRow_nil _ _ _ _) ⟨gx, 0, none⟩ n c ys hx hr.1 (fun j u hj => ?_) h1 hn (by unfold maxLen; omega) (by omega) (Nat.le_refl _) ?_
    · rw [addr_add, Nat.zero_add]
      exact cell_n hr hj
    · intro g cap w' hown halt
      rw [Nat.zero_add, List.nil_append] at hown
      rw [Nat.zero_add]
      rcases halt with ⟨e, _⟩ | ⟨h2, h3⟩
      · simp at e
      · exact h g cap w' hown h2 h3
set_option maxHeartbeats 1600000 in
set_option maxRecDepth 100000 in
theorem copied_any (u : Value) (xs : List Int) (w : World) (h : InsOwn w 0 u xs) (hl : xs.length ≤ 1000) :
    Calls Try.prog 39 #[u] w fun e w' => ∃ c, e = .returned c ∧ InsOwn w' w.heap.size c xs ∧ Below w.heap.size w w' := by
  cases xs with
  | nil =>
    obtain ⟨ua, uc, rfl, _⟩ := row_form h
    clear h hl
    have hp : Sem.run Try.prog (pure #[] : Sem (Array Value)) w = .ok #[] w := rfl
    cases ua with
    | none =>
      go_enter Try.func39, Try.ntmps39
      go_wp2_with fail
      go_ret
      exact ⟨_, rfl, World.ownsRow_nil _ _ _ _, Below.refl _ _⟩
    | some ua =>
      go_enter Try.func39, Try.ntmps39
      go_wp2_with fail
      go_ret
      exact ⟨_, rfl, World.ownsRow_nil _ _ _ _, Below.refl _ _⟩
  | cons x xs =>
    obtain ⟨gx, c, rfl⟩ := row_some (n := xs.length) h
    obtain ⟨n, hn⟩ : ∃ z, xs.length + 1 = z := ⟨_, rfl⟩
    obtain ⟨ys, hys⟩ : ∃ z, (x :: xs).map (Value.int .i64 ·) = z := ⟨_, rfl⟩
    have HR : Hid (w.ownsRow 0 3 1 (.slice (some ⟨gx, 0, none⟩) n c) n ys) := by
      have h9 : w.ownsRow 0 3 1 (.slice (some ⟨gx, 0, none⟩) (xs.length + 1) c) (xs.length + 1) ((x :: xs).map (Value.int .i64 ·)) := h
      rw [hn, hys] at h9
      exact h9
    have H1 : Hid (∀ y ∈ ys, y.oneCell' = true) := by
      intro y hy
      rw [← hys] at hy
      obtain ⟨z, _, rfl⟩ := List.mem_map.1 hy
      rfl
    have HN : Hid ((x :: xs).length = n) := hn
    have HYS : Hid ((x :: xs).map (Value.int .i64 ·) = ys) := hys
    have hn0 : 0 < n := by omega
    have hn1 : n ≤ 1000000 := by simp at hl; omega
    rw [hn]
    clear h hl hn hys
    go_enter Try.func39, Try.ntmps39
    go_wp2_with (first
      | (at_builtin; refine wpList_app_row rfl _ _ rfl rfl gx n c ys rfl HR.out H1.out hn0 hn1 ?_)
      | fail)
    intro g cap w2 hown2 hg2 hgr2
    have HO : Hid (w2.ownsRow w.heap.size 3 1 (.slice (some ⟨g, 0, none⟩) n cap) n ys) := hown2
    have HB : Hid (Below w.heap.size w w2) := (Below.refl _ _).grown hgr2 (Nat.le_refl _) (fun j hj => by cases hj)
    clear hown2 hgr2
    go_wp2_with fail
    go_ret
    refine ⟨_, rfl, ?_, HB.out⟩
    show World.ownsRow _ _ _ _ _ _ _
    rw [HN.out, HYS.out]
    exact HO.out
/-- What a step of own.go answers. -/
def actN (L : LnT) (s : StL) : List Int := if s.kind = 1 then (L.send (shL s.ms)).2 else []
theorem actN_len (L : LnT) (s : StL) : (actN L s).length ≤ 300 := by
  unfold actN
  split
  · rw [send_len]; exact shL_len _
  · simp
set_option maxHeartbeats 3200000 in
set_option maxRecDepth 100000 in
theorem act_any (w : World) (K : Nat → Prop) (L : LnT) (p mv : Value) (s : StL) (P : Nat → Prop) (h : AtL w K L p) (hok : L.Ok) (hg : L.gv + 300 ≤ MaxG) (hn : (Lit.int .i64 s.n).wf = true) (hms : MssAt w P mv s.ms) :
    Calls Try.prog 36 #[p, s.val mv] w fun e w' => ∃ u K', e = .returned u ∧ InsOwn w' w.heap.size u (actN L s) ∧ LnE AtL w K (L.step s) p w' K' := by
  obtain ⟨ma, mc, rfl, _⟩ := RowAt.form hms
  obtain ⟨mn, hmn⟩ : ∃ z, s.ms.length = z := ⟨_, rfl⟩
  rw [hmn] at hms ⊢
  obtain ⟨po, hpo⟩ : ∃ o, p = .pointer o := by rcases h.ptr with h | ⟨b, h⟩ <;> exact ⟨_, h⟩
  subst hpo
  obtain ⟨W, hW⟩ : ∃ z, w.alloc (.cells #[.int .i64 s.kind, .int .i64 s.on, .slice ma mn mc, .int .i64 s.n, .int .i64 s.a, .int .i64 s.t] 47) = z := ⟨_, rfl⟩
  obtain ⟨g, hgg⟩ : ∃ z, w.heap.size = z := ⟨_, rfl⟩
  have hbW : Below w.heap.size w W := by rw [← hW]; exact (Below.refl _ _).alloc (Nat.le_refl _) _
  have HX : Hid (W.heap[g]? = some (.cells #[.int .i64 s.kind, .int .i64 s.on, .slice ma mn mc, .int .i64 s.n, .int .i64 s.a, .int .i64 s.t] 47 (0, 0))) := by show _ = _; rw [← hW, ← hgg]; exact heap_alloc_new _ _
  have hAW : AtL W K L (.pointer po) := h.keep (Kp.of_below hbW _)
  have HSH : Hid _ := short_any s.ms (.slice ma mn mc) W P (MssAt.keep hms (Kp.of_below hbW _))
  have HSE : Hid (∀ w' v, Below W.heap.size W w' → MsRow w' W.heap.size v (shL s.ms) → Calls Try.prog 11 #[.pointer po, v] w' fun e w'' => ∃ u K', e = .returned u ∧ InsOwn w'' w'.heap.size u (L.send (shL s.ms)).2 ∧ (∀ j, u.ownBlock = some j → ¬ K' j) ∧ LnE AtL w' K (L.send (shL s.ms)).1 (.pointer po) w'' K') := fun w' v hb hr =>
    sendL_at w' K L (.pointer po) v (shL s.ms) (fun j => v.ownBlock = some j) (hAW.keep (Kp.of_below hb _)) hok (ms_row hr (fun k hk => hk)) (fun j hj hk => by have := (row_block hr j hj).1; have := hAW.lt j hk; omega) (shL_small s.ms) (by have := shL_len s.ms; omega) (by have := shL_len s.ms; omega)
  have HTA : Hid _ := takeL_at W K L (.pointer po) s.n hAW hok hn
  have HDO : Hid _ := double_at W K L (.pointer po) s.n hAW hok (by omega) hn
  have HSP : Hid _ := spoilL_at W K L (.pointer po) s.n s.a s.t hAW hok hn
  have HAT : Hid (AtL w K L (.pointer po)) := h
  have HBW : Hid (Below w.heap.size w W) := hbW
  have HW : Hid (_ = W) := hW
  have HGG : Hid (w.heap.size = g) := hgg
  obtain ⟨R, hR⟩ : ∃ z, L.step s = z := ⟨_, rfl⟩
  obtain ⟨A, hA⟩ : ∃ z, actN L s = z := ⟨_, rfl⟩
  rw [hR, hA]
  have HR : Hid (L.step s = R) := hR
  have HA : Hid (actN L s = A) := hA
  have c0 := cell_of (o := 0) HX.out
  have c2 := cell_of (o := 2) HX.out
  have c3 := cell_of (o := 3) HX.out
  have c4 := cell_of (o := 4) HX.out
  have c5 := cell_of (o := 5) HX.out
  obtain ⟨kind, on, ms, n, a, t⟩ := s
  simp only [List.getElem?_toArray, List.getElem?_cons_zero, List.getElem?_cons_succ] at c0 c2 c3 c4 c5
  simp only at HSH HSE HTA HDO HSP
  clear h hok hg hn hms hmn hbW hAW hR hA hW hgg
  by_cases k1 : kind = 1
  · subst k1
    have e1 : (L.send (shL ms)).1 = R := by have := HR.out; unfold LnT.step at this; rw [if_pos rfl] at this; exact this
    have e2 : (L.send (shL ms)).2 = A := by have := HA.out; unfold actN at this; rw [if_pos rfl] at this; exact this
    rw [e1, e2] at HSE
    clear e1 e2
    go_enter Try.func36, Try.ntmps36
    go_upto_region 1 with fail
    rw [HW.out, HGG.out]
    go_wp2_with fail
    refine Calls.mono HSH.out ?_
    rintro e w1 ⟨v1, rfl, hr1, hb1⟩
    have HSE1 : Hid _ := HSE.out w1 v1 hb1 hr1
    have HB1 : Hid (Below w.heap.size w w1) := trans2 HBW.out hb1
    obtain ⟨va, vc, rfl, _⟩ := row_form hr1
    clear hr1 hb1
    go_wp2_with fail
    refine Calls.mono HSE1.out ?_
    rintro e w2 ⟨u2, K2, rfl, hu2, _, hE2⟩
    have HU2 : Hid (InsOwn w2 w.heap.size u2 A) := owns_mono hu2 HB1.out.size
    have HE2 : Hid (LnE AtL w K R (.pointer po) w2 K2) := LnE.before HB1.out hE2
    clear hu2 hE2
    go_wp2_with fail
    go_ret
    exact ⟨_, K2, rfl, HU2.out, HE2.out⟩
  · have e2 : [] = A := by have := HA.out; unfold actN at this; rw [if_neg k1] at this; exact this
    subst e2
    have hR1 := HR.out
    unfold LnT.step at hR1
    rw [if_neg k1] at hR1
    simp only at hR1
    have k1' : (kind == 1) = false := by simpa using k1
    by_cases k2 : kind = 2
    · subst k2
      rw [if_pos rfl] at hR1
      rw [hR1] at HTA
      clear hR1 k1'
      go_enter Try.func36, Try.ntmps36
      go_upto_region 1 with fail
      rw [HW.out, HGG.out]
      go_wp2_with fail
      refine Calls.mono HTA.out ?_
      rintro e w1 ⟨K1, rfl, hE1⟩
      have HE1 : Hid (LnE AtL w K R (.pointer po) w1 K1) := LnE.before HBW.out hE1
      clear hE1
      go_wp2_with fail
      go_ret
      exact ⟨_, K1, rfl, World.ownsRow_nil _ _ _ _, HE1.out⟩
    · rw [if_neg k2] at hR1
      have k2' : (kind == 2) = false := by simpa using k2
      by_cases k3 : kind = 3
      · subst k3
        rw [if_pos rfl] at hR1
        rw [hR1] at HDO
        clear hR1 k1' k2'
        go_enter Try.func36, Try.ntmps36
        go_upto_region 1 with fail
        rw [HW.out, HGG.out]
        go_wp2_with fail
        refine Calls.mono HDO.out ?_
        rintro e w1 ⟨K1, rfl, hE1⟩
        have HE1 : Hid (LnE AtL w K R (.pointer po) w1 K1) := LnE.before HBW.out hE1
        clear hE1
        go_wp2_with fail
        go_ret
        exact ⟨_, K1, rfl, World.ownsRow_nil _ _ _ _, HE1.out⟩
      · rw [if_neg k3] at hR1
        have k3' : (kind == 3) = false := by simpa using k3
        by_cases k4 : kind = 4
        · subst k4
          rw [if_pos rfl] at hR1
          rw [hR1] at HSP
          clear hR1 k1' k2' k3'
          go_enter Try.func36, Try.ntmps36
          go_upto_region 1 with fail
          rw [HW.out, HGG.out]
          go_wp2_with fail
          refine Calls.mono HSP.out ?_
          rintro e w1 ⟨K1, rfl, hE1⟩
          have HE1 : Hid (LnE AtL w K R (.pointer po) w1 K1) := LnE.before HBW.out hE1
          clear hE1
          go_wp2_with fail
          go_ret
          exact ⟨_, K1, rfl, World.ownsRow_nil _ _ _ _, HE1.out⟩
        · rw [if_neg k4] at hR1
          have k4' : (kind == 4) = false := by simpa using k4
          have HE : Hid (L = R) := hR1
          clear hR1
          go_enter Try.func36, Try.ntmps36
          go_upto_region 1 with fail
          rw [HW.out, HGG.out]
          go_wp2_with fail
          go_ret
          have e := HE.out
          subst e
          exact ⟨_, rfl, World.ownsRow_nil _ _ _ _, K, HAT.out.below HBW.out⟩
end Go.Proofs.Ytfcobhgjkibdgaa
