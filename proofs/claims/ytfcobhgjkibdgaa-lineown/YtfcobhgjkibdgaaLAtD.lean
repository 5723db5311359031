/-
  line: the landed line as it lies.
-/
import Derived.Test.YtfcobhgjkibdgaaLPut
import Derived.Test.YtfcobhgjkibdgaaLNums
namespace Go.Proofs.Ytfcobhgjkibdgaa
open Go.RowKit Go.Maps
set_option linter.unusedVariables false
set_option linter.unusedSimpArgs false

/-- A line lies here: its blocks are K. -/
def AtL (w : World) (K : Nat → Prop) (L : LnT) (p : Value) : Prop :=
  (p = .pointer none ∧ L = lnN ∧ ∀ j, ¬ K j) ∨ ∃ b mo Km, p = .pointer (some ⟨b, 0, none⟩) ∧ L.no = false ∧ w.heap[b]? = some (.cells #[.map mo, .int .i64 L.gv] 64 (0, 0)) ∧ FlM w Km (.map mo) L.fl pV ∧ ∀ j, K j ↔ (j = b ∨ Km j)
theorem AtL.keep {w w' : World} {K : Nat → Prop} {L : LnT} {p : Value} (h : AtL w K L p) (hk : Kp w w' K) : AtL w' K L p := by
  rcases h with h | ⟨b, mo, Km, rfl, hno, hb, hF, hK⟩
  · exact .inl h
  · exact .inr ⟨b, mo, Km, rfl, hno, (hk.block b (lt_of_blk hb) ((hK b).2 (.inl rfl))).trans hb, FlM.keep hF (hk.mono (fun j _ hj => (hK j).2 (.inr hj))), hK⟩
theorem AtL.lt {w : World} {K : Nat → Prop} {L : LnT} {p : Value} (h : AtL w K L p) : ∀ j, K j → j < w.heap.size := by
  rcases h with ⟨_, _, h⟩ | ⟨b, mo, Km, rfl, hno, hb, hF, hK⟩
  · exact fun j hj => absurd hj (h j)
  · intro j hj
    rcases (hK j).1 hj with rfl | hj
    · exact lt_of_blk hb
    · exact FlM.lt hF j hj
theorem AtL.sort {w : World} {K : Nat → Prop} {L : LnT} {p : Value} (h : AtL w K L p) : ∀ j cur, K j → w.heap[j]? ≠ some (.cells cur 97 (0, 0)) := by
  rcases h with ⟨_, _, h⟩ | ⟨b, mo, Km, rfl, hno, hb, hF, hK⟩
  · exact fun j cur hj => absurd hj (h j)
  · intro j cur hj e
    rcases (hK j).1 hj with rfl | hj
    · rw [hb] at e; cases e
    · exact FlM.sort hF j _ _ hj e
theorem AtL.ints {w : World} {K : Nat → Prop} {L : LnT} {p : Value} (h : AtL w K L p) : ∀ j cur, K j → w.heap[j]? ≠ some (.cells cur 3 (0, 0)) := by
  rcases h with ⟨_, _, h⟩ | ⟨b, mo, Km, rfl, hno, hb, hF, hK⟩
  · exact fun j cur hj => absurd hj (h j)
  · intro j cur hj e
    rcases (hK j).1 hj with rfl | hj
    · rw [hb] at e; cases e
    · exact FlM.sort hF j _ _ hj e
theorem AtL.ptr {w : World} {K : Nat → Prop} {L : LnT} {p : Value} (h : AtL w K L p) : p = .pointer none ∨ ∃ b, p = .pointer (some ⟨b, 0, none⟩) := by
  rcases h with ⟨h, _⟩ | ⟨b, _, _, h, _⟩
  · exact .inl h
  · exact .inr ⟨b, h⟩
/-- A world that has all that was here has the line. -/
theorem AtL.below {w w' : World} {K : Nat → Prop} {L : LnT} {p : Value} (h : AtL w K L p) (hb : Below w.heap.size w w') : LnE AtL w K L p w' K :=
  ⟨h.keep (Kp.of_below hb _), Chg.of_below hb _, fun j hj => .inl hj⟩
theorem LnE.then {w w1 w2 : World} {K K1 : Nat → Prop} {L L1 : LnT} {p : Value} (h : LnE AtL w K L p w1 K1) (hb : Below w1.heap.size w1 w2) : LnE AtL w K L p w2 K1 :=
  ⟨h.at'.keep (Kp.of_below hb _), h.chg.trans (Chg.of_below hb _), h.new⟩
theorem LnE.before {w w1 w2 : World} {K K2 : Nat → Prop} {L : LnT} {p : Value} (hb : Below w.heap.size w w1) (h : LnE AtL w1 K L p w2 K2) : LnE AtL w K L p w2 K2 :=
  ⟨h.at', (Chg.of_below hb K).trans h.chg, fun j hj => by rcases h.new j hj with h | h; exact .inl h; exact .inr (Nat.le_trans hb.size h)⟩
theorem find_at (w : World) (K : Nat → Prop) (L : LnT) (p : Value) (n : Int) (h : AtL w K L p) (hn : (Lit.int .i64 n).wf = true) :
    Calls Try.prog 30 #[p, .int .i64 n] w fun e w' => e = .returned (.tuple #[(fndV L n).1, .int .i64 (fndV L n).2]) ∧ Below w.heap.size w w' := by
  rcases h with ⟨rfl, rfl, _⟩ | ⟨b, mo, Km, rfl, hno, hb, hF, hK⟩
  · exact find_nil n w
  · exact find_map b (.map mo) L Km n w hb hF hn
/-- What put answers. -/
def putR (L : LnT) : Int × Int := if L.no = true ∨ 256 ≤ L.fl.length then (0, 46) else (((L.gv + 1 : Nat) : Int), 0)
theorem fnd_top {L : LnT} (h : L.Ok) : fnd L.fl ((L.gv + 1 : Nat) : Int) = none := by
  unfold fnd
  rw [List.find?_eq_none]
  intro p hp
  have := (h.top p hp).2
  simp
  omega
theorem put_at (w : World) (K : Nat → Prop) (L : LnT) (p : Value) (m : MsT) (s : Bool) (h : AtL w K L p) (hok : L.Ok) (hg : L.gv + 1 ≤ MaxG) (hm : m.b.size ≤ 1000000) :
    Calls Try.prog 29 #[p, .agg #[.int .i64 m.f, .int .i64 m.t, .string m.b, .bool s]] w fun e w' => ∃ K', e = .returned (.tuple #[.int .i64 (putR L).1, .int .i64 (putR L).2]) ∧ LnE AtL w K (L.put m s).1 p w' K' := by
  by_cases hf : L.no = true ∨ 256 ≤ L.fl.length
  · have e1 : putR L = (0, 46) := by unfold putR; rw [if_pos hf]
    have e2 : (L.put m s).1 = L := by unfold LnT.put; rw [if_pos hf]
    rw [e1, e2]
    have h' := h
    rcases h with ⟨rfl, rfl, _⟩ | ⟨b, mo, Km, rfl, hno, hb, hF, hK⟩
    · refine (put_nil m s w).mono ?_
      rintro e w' ⟨rfl, hb⟩
      exact ⟨K, rfl, h'.below hb⟩
    · refine (put_full b (.map mo) L.fl L.gv Km m s w hb hF (by rcases hf with hf | hf; rw [hno] at hf; cases hf; exact hf)).mono ?_
      rintro e w' ⟨rfl, hb⟩
      exact ⟨K, rfl, h'.below hb⟩
  · have e1 : putR L = (((L.gv + 1 : Nat) : Int), 0) := by unfold putR; rw [if_neg hf]
    have e2 : (L.put m s).1 = ⟨L.fl ++ [⟨L.gv + 1, m, s⟩], L.gv + 1, false⟩ := by unfold LnT.put; rw [if_neg hf]
    rw [e1, e2]
    rcases h with ⟨rfl, rfl, _⟩ | ⟨b, mo, Km, rfl, hno, hb, hF, hK⟩
    · exact absurd (.inl rfl) hf
    · refine (put_ok b (.map mo) L.fl L.gv Km m s w hb hF (by omega) hg (fnd_top hok) hm).mono ?_
      rintro e w' ⟨mo', Kn, rfl, hE⟩
      refine ⟨fun j => j = b ∨ Kn j, rfl, .inr ⟨b, mo', Kn, rfl, rfl, hE.box, hE.fl, fun j => Iff.rfl⟩, hE.chg.mono (fun j _ hj => (hK j).2 hj), fun j hj => ?_⟩
      rcases hj with rfl | hj
      · exact .inl ((hK j).2 (.inl rfl))
      · rcases hE.new j hj with h | h
        · exact .inl ((hK j).2 (.inr h))
        · exact .inr h
theorem dbl_put {L : LnT} {n : Int} {p : PcT} (hf : fnd L.fl n = some p) : L.dbl n = ((L.put p.m p.s).1, (putR L).1, (putR L).2) := by
  unfold LnT.dbl putR
  rw [hf]
  dsimp only
  unfold LnT.put
  split
  · rfl
  · rw [if_neg (by simp; omega)]
theorem put_neg (L : LnT) (m : MsT) (s : Bool) : (L.put m s).2 = if (putR L).2 = 0 then (putR L).1 else -1 := by
  unfold LnT.put putR
  split <;> simp
theorem putR_cases (L : LnT) : putR L = (0, 46) ∨ putR L = (((L.gv + 1 : Nat) : Int), 0) := by
  unfold putR
  split
  · exact .inl rfl
  · exact .inr rfl
set_option maxHeartbeats 3200000 in
set_option maxRecDepth 100000 in
theorem double_at (w : World) (K : Nat → Prop) (L : LnT) (p : Value) (n : Int) (h : AtL w K L p) (hok : L.Ok) (hg : L.gv + 1 ≤ MaxG) (hn : (Lit.int .i64 n).wf = true) :
    Calls Try.prog 12 #[p, .int .i64 n] w fun e w' => ∃ K', e = .returned (.tuple #[.int .i64 (L.dbl n).2.1, .int .i64 (L.dbl n).2.2]) ∧ LnE AtL w K (L.dbl n).1 p w' K' := by
  have HF : Hid _ := find_at w K L p n h hn
  have HAT : Hid (AtL w K L p) := h
  cases hf : fnd L.fl n with
  | none =>
    have e : fndV L n = (pZ, 160) := by unfold fndV; rw [hf]
    have e2 : L.dbl n = (L, 0, 160) := by unfold LnT.dbl; rw [hf]
    rw [e] at HF
    rw [e2]
    unfold pZ at HF
    clear hf e e2 h hok hg hn
    go_enter Try.func12, Try.ntmps12
    go_wp2_with fail
    refine Calls.mono HF.out ?_
    rintro e w1 ⟨rfl, hb1⟩
    have HB1 : Hid (Below w.heap.size w w1) := hb1
    clear hb1
    go_wp2_with fail
    go_ret2
    exact ⟨K, rfl, HAT.out.below (HB1.out.alloc HB1.out.size _)⟩
  | some q =>
    have e : fndV L n = (pV q, 0) := by unfold fndV; rw [hf]
    rw [e] at HF
    rw [dbl_put hf]
    have HP : Hid (∀ w', Below w.heap.size w w' → _) := fun w' hb => put_at w' K L p q.m q.s (h.keep (Kp.of_below hb _)) hok hg (Nat.le_trans (hok.small q (fnd_mem hf).1) (by decide))
    unfold pV at HF
    obtain ⟨R, hR⟩ : ∃ R, putR L = R := ⟨_, rfl⟩
    rw [hR] at HP ⊢
    obtain ⟨LP, hLP⟩ : ∃ R, (L.put q.m q.s).1 = R := ⟨_, rfl⟩
    rw [hLP] at HP ⊢
    obtain ⟨qn, ⟨f, t, d⟩, s⟩ := q
    simp only at HF HP
    obtain ⟨R1, R2⟩ := R
    simp only at HP
    clear hf e h hok hg hn hR hLP
    go_enter Try.func12, Try.ntmps12
    go_wp2_with fail
    refine Calls.mono HF.out ?_
    rintro e w1 ⟨rfl, hb1⟩
    have HB1 : Hid (Below w.heap.size w w1) := hb1
    clear hb1
    go_wp2_with fail
    refine Calls.mono (HP.out _ (HB1.out.alloc HB1.out.size _)) ?_
    rintro e w2 ⟨K', rfl, hE⟩
    have HE : Hid (LnE AtL w K LP p w2 K') := LnE.before (HB1.out.alloc HB1.out.size _) hE
    clear hE
    go_wp2_with fail
    go_ret2
    exact ⟨K', rfl, HE.out⟩
theorem new_at (w : World) : Calls Try.prog 10 #[] w fun e w' => ∃ b K, e = .returned (.pointer (some ⟨b, 0, none⟩)) ∧ AtL w' K ln0 (.pointer (some ⟨b, 0, none⟩)) ∧ Below w.heap.size w w' ∧ ∀ j, K j → w.heap.size ≤ j := by
  go_enter Try.func10, Try.ntmps10
  go_wp2_with fail
  go_ret
  refine ⟨w.heap.size, fun j => j = w.heap.size, rfl, .inr ⟨w.heap.size, none, fun _ => False, rfl, rfl, heap_alloc_new _ _, .inl ⟨rfl, rfl, fun _ h => h⟩, fun j => by simp⟩, (Below.refl _ _).alloc (Nat.le_refl _) _, fun j hj => Nat.le_of_eq hj.symm⟩
theorem numbers_at (w : World) (K : Nat → Prop) (L : LnT) (p : Value) (h : AtL w K L p) (hok : L.Ok) : Calls Try.prog 19 #[p] w fun e w' => ∃ u K', e = .returned u ∧ InsOwn w' w.heap.size u (L.fl.map fun p => (p.n : Int)) ∧ (∀ j, u.ownBlock = some j → ¬ K' j) ∧ LnE AtL w K L p w' K' := by
  have h' := h
  rcases h with ⟨rfl, rfl, hK⟩ | ⟨b, mo, Km, rfl, hno, hb, hF, hK⟩
  · go_enter Try.func19, Try.ntmps19
    go_wp2_with fail
    go_ret
    exact ⟨_, K, rfl, World.ownsRow_nil _ _ _ _, (fun j _ => hK j), h'.below (Below.refl _ _)⟩
  · have fin : ∀ (w' : World) (u : Value), InsOwn w' w.heap.size u (L.fl.map fun p => (p.n : Int)) → Below w.heap.size w w' → (∀ j, u.ownBlock = some j → ¬ K j) := fun w' u hu hb j hj hKj => by
      have := (row_block hu j hj).1
      have := h'.lt j hKj
      omega
    cases mo with
    | none =>
      have hfl : L.fl = [] := by rcases hF with ⟨_, h, _⟩ | ⟨mb, D, h, _⟩; exact h; cases h
      refine (numbers_nilmap b L.gv w hb).mono ?_
      rintro e w' ⟨u, rfl, hu, hb'⟩
      have hu' : InsOwn w' w.heap.size u (L.fl.map fun p => (p.n : Int)) := by rw [hfl]; exact hu
      exact ⟨u, K, rfl, hu', fin w' u hu' hb', h'.below hb'⟩
    | some mb =>
      refine (numbers_map b mb L Km pV w hb hF hok).mono ?_
      rintro e w' ⟨u, rfl, hu, hb'⟩
      exact ⟨u, K, rfl, hu, fin w' u hu hb', h'.below hb'⟩
end Go.Proofs.Ytfcobhgjkibdgaa
