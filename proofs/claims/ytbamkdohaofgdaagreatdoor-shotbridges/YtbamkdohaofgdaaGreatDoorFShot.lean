import Derived.Test.YtbamkdohaofgdaaGreatDoorFPure
import Derived.Deep.RegionLaw
import Derived.Shelf.Abstract
import Derived.Test.YtbamkdohaofgdaaGreatDoorSTurned
namespace Go.Proofs.YtbamkdohaofgdaaGreatDoor.W
open Go.RowKit

theorem step_call1 {P : Program} {ops : Array Oper} {o : Oper} {a : Act} {w : World} {K : Act → World → Prop} {Q : Exit → Act → World → Prop} {E : Prop} (hgd : o.guard = none) (f : FuncId) (x : Operand) (ts : Array TypeId)
    (ho : o.op = .call { callee := .value (.func f), args := #[x], argTypes := ts }) (ef : ∀ args w, (callFunc f args).run P w = .ok (.enter f args) w) (u : Value) (hx : a.eval x = u) {R : Ending → World → Prop} (hc : Calls P f #[u] w R)
    (v : Value) (hr : ∀ e w', R e w' → e = .returned v) (h : ∀ w', R (.returned v) w' → K (a.put o.dst v) w') :
    if Region.wanted o (yielded ops a.tmps) = true then Oper.wp P o a w K Q else E := by
  have hw : Region.wanted o (yielded ops a.tmps) = true := by simp [Region.wanted, hgd]
  rw [if_pos hw]
  have he : (execOp a.eval o).run P w = .ok (.enter f #[u]) w := by
    have hf : a.eval (.func f) = .func (.func f) #[] #[] := rfl
    simp [execOp, ho, resolve, invoke, Deferred.ofValue, hx, hf, ef]
  unfold Oper.wp
  rw [he, Oper.upon_enter]
  refine hc.mono ?_
  intro e w' hR
  obtain rfl := hr e w' hR
  exact h w' hR
theorem step_call1P {P : Program} {ops : Array Oper} {o : Oper} {a : Act} {w : World} {K : Act → World → Prop} {Q : Exit → Act → World → Prop} {E : Prop} (hgd : o.guard = none) (f : FuncId) (x : Operand) (ts : Array TypeId)
    (ho : o.op = .call { callee := .value (.func f), args := #[x], argTypes := ts }) (ef : ∀ args w, (callFunc f args).run P w = .ok (.enter f args) w) (u : Value) (hx : a.eval x = u) {R : Ending → World → Prop} (hc : Calls P f #[u] w R)
    (ps : List PanicEntry) (hr : ∀ e w', R e w' → e = .panicked ps) (h : ∀ w', R (.panicked ps) w' → Q (.panic ps) a w') :
    if Region.wanted o (yielded ops a.tmps) = true then Oper.wp P o a w K Q else E := by
  have hw : Region.wanted o (yielded ops a.tmps) = true := by simp [Region.wanted, hgd]
  rw [if_pos hw]
  have he : (execOp a.eval o).run P w = .ok (.enter f #[u]) w := by
    have hf : a.eval (.func f) = .func (.func f) #[] #[] := rfl
    simp [execOp, ho, resolve, invoke, Deferred.ofValue, hx, hf, ef]
  unfold Oper.wp
  rw [he, Oper.upon_enter]
  refine hc.mono ?_
  intro e w' hR
  obtain rfl := hr e w' hR
  exact h w' hR
end Go.Proofs.YtbamkdohaofgdaaGreatDoor.W
namespace Go.Proofs.YtbamkdohaofgdaaGreatDoor.W
open Go.RowKit
set_option linter.unusedVariables false
set_option linter.unusedSimpArgs false

theorem Bys.chg {w w' : World} {S : Nat → Prop} {a : Option Addr} {zs : List Int} (h : Bys w a zs) (hc : Chg w w' S) (hs : zs ≠ [] → ∀ b o, a = some ⟨b, o, none⟩ → ¬ S b) : Bys w' a zs := by
  by_cases hz : zs = []
  · exact .inl hz
  rcases h with h | ⟨b, o, ha, hlt, hx⟩
  · exact .inl h
  · refine .inr ⟨b, o, ha, Nat.lt_of_lt_of_le hlt hc.size, fun j z hj => ?_⟩
    rw [World.cell?_of_block (w := w) (hc.block b hlt (hs hz b o ha))]
    exact hx j z hj
abbrev shZ : Array Value := #[.int .i64 0, .string ⟨#[]⟩, .int .i64 0, .slice none 0 0]
/-- What stands while a shot is read. -/
structure SR (w0 w : World) (br : Nat) (a : Option Addr) (n c : Nat) (at' : Int) : Prop where
  rd : RdAt w br a n c at'
  rs : w.heap[w0.heap.size]? = some (.cells shZ 24 (0, 0))
  chg : Chg w0 w (fun j => j = br)
theorem other_chg {w w' : World} {br b : Nat} {cs : Array Value} {t : TypeId} (hc : Chg w w' (fun j => j = br)) (h : w.heap[b]? = some (.cells cs t (0, 0))) (hne : b ≠ br) : w'.heap[b]? = some (.cells cs t (0, 0)) := by
  rw [hc.block b (lt_of_blk h) hne]
  exact h
theorem SR.step {w0 w w' : World} {br : Nat} {a : Option Addr} {n c : Nat} {at' nx : Int} (h : SR w0 w br a n c at') (hlt : br < w0.heap.size) (h1 : RdAt w' br a n c nx) (h2 : Chg w w' (fun j => j = br)) : SR w0 w' br a n c nx :=
  ⟨h1, other_chg h2 h.rs (by omega), h.chg.trans h2⟩
theorem SR.alloc {w0 w : World} {br : Nat} {a : Option Addr} {n c : Nat} {at' : Int} (h : SR w0 w br a n c at') (o : Obj) : SR w0 (w.alloc o) br a n c at' := ⟨new_old h.rd _, new_old h.rs _, h.chg.trans (Chg.alloc _ _ _)⟩
/-- The shot that is being read. -/
structure SL (w0 w : World) (sb : Nat) (st : Int) (p : ByteArray) (k : Int) (la : Option Addr) (q lc : Nat) (l : List SeenT) : Prop where
  box : w.heap[sb]? = some (.cells (shA st p k la q lc) 24 (0, 0))
  row : w.ownsRow w0.heap.size 52 3 (.slice la q lc) q (seCs l)
theorem SL.step {w0 w w' : World} {br sb : Nat} {st : Int} {p : ByteArray} {k : Int} {la : Option Addr} {q lc : Nat} {l : List SeenT} {a : Option Addr} {n c : Nat} {at' : Int} (h : SL w0 w sb st p k la q lc l) (hr : RdAt w br a n c at') (h2 : Chg w w' (fun j => j = br)) : SL w0 w' sb st p k la q lc l := by
  refine ⟨other_chg h2 h.box (fun e => ?_), owns_same h.row (fun j hj => h2.block j (h.row.lt j hj).2 (fun e => ?_))⟩
  · have := h.box
    rw [e, hr] at this
    cases this
  · obtain ⟨cur, hc⟩ := owns_kind h.row hj
    rw [e, hr] at hc
    cases hc
/-- How the reading of a shot ends. -/
def ShotEnd (xs : List Int) (w w' : World) (br : Nat) (a : Option Addr) (n c : Nat) (e : Ending) : Prop :=
  match rdShot xs with
  | none => e = .panicked PN ∧ Chg w w' (fun j => j = br)
  | some R => ∃ la lc, e = .returned (.agg (shA R.st R.p R.k la R.l.length lc)) ∧ Ss w' la R.l ∧ R.l.length ≤ lc ∧ (la = none → lc = 0) ∧ RdAt w' br a n c R.at' ∧ (∀ b o, la = some ⟨b, o, none⟩ → w.heap.size ≤ b) ∧ Chg w w' (fun j => j = br)
theorem ShotEnd.bad {xs : List Int} {w w' : World} {br : Nat} {a : Option Addr} {n c : Nat} (h : rdShot xs = none) (hc : Chg w w' (fun j => j = br)) : ShotEnd xs w w' br a n c (.panicked PN) := by
  unfold ShotEnd
  rw [h]
  exact ⟨rfl, hc⟩
theorem step_append_own {P : Program} {ops : Array Oper} {o : Oper} {a : Act} {w : World} {K : Act → World → Prop} {Q : Exit → Act → World → Prop} {E : Prop}
    (hg : o.guard = none) (s x : Operand) (t : TypeId) (hop : o.op = Op.call { callee := Callee.builtin Builtin.append, args := #[s, x], argTypes := #[t, t] })
    (base : Nat) (e : TypeId) (i : TypeInfo) (z : Value) (size bytes : Nat) (h1 : P.underlying t = some (.slice e)) (h2 : P.info? e = some i) (h3 : i.zero = some z) (h4 : i.size = size) (h5 : i.bytes = bytes) (h6 : z.cells.size = size) (h7 : 0 < size)
    (v : Value) (n : Nat) (xs : List Value) (hs : a.eval s = v) (hown : w.ownsRow base e size v n xs)
    (ad : Addr) (m c : Nat) (news : List Value) (hx : a.eval x = .slice (some ad) m c) (hn : news.length = m * size) (hc : ∀ j u, news[j]? = some u → w.cell? (ad.add j) = some u) (h1c : ∀ u ∈ news, u.oneCell' = true)
    (b1 : n + m ≤ maxLen) (b2 : (n + m) * bytes ≤ 140737488355328) (hbase : base ≤ w.heap.size)
    (hK : ∀ v' w', w'.ownsRow base e size v' (n + m) (xs ++ news) → w.grownBy w' v.ownBlock → (v'.ownBlock = v.ownBlock ∨ v'.ownBlock = some w.heap.size) → K (a.put o.dst v') w') :
    if Region.wanted o (yielded ops a.tmps) = true then Oper.wp P o a w K Q else E := by
  have hw : Region.wanted o (yielded ops a.tmps) = true := by simp [Region.wanted, hg]
  rw [if_pos hw]
  obtain ⟨v', w', hr, g2, g3, _, g5⟩ := run_append_own_at (P := P) w base t o.type e i z size bytes h1 h2 h3 h4 h5 h6 h7 v n xs hown ad m c news hn hc h1c b1 b2 hbase
  unfold Oper.wp execOp
  simp only [hop, resolve, invoke, builtin, Sem.run_bind, Sem.run_pure, Result.andThen_ok, List.map_toArray, List.map_cons, List.map_nil, hs, hx, hr]
  exact hK v' w' g2 g3 g5
theorem box_app {w w' : World} {base e s n b : Nat} {v : Value} {xs : List Value} {o : Obj} {cs : Array Value} {t : TypeId} (hr : w.ownsRow base e s v n xs) (hg : (w.alloc o).grownBy w' v.ownBlock) (h : w.heap[b]? = some (.cells cs t (0, 0))) (ht : t ≠ e) : w'.heap[b]? = some (.cells cs t (0, 0)) := by
  rw [hg.block b (by simp; have := lt_of_blk h; omega) (fun he => ?_)]
  · exact new_old h _
  · obtain ⟨cur, hc⟩ := owns_kind hr he.symm
    rw [h] at hc
    injection hc with hc
    injection hc with _ h2 _
    exact ht h2
theorem SR.app {w0 w8 w9 : World} {br sb : Nat} {a : Option Addr} {N c : Nat} {at' st : Int} {p : ByteArray} {k : Int} {la la' : Option Addr} {q lc lc' : Nat} {l l' : List SeenT} {o : Obj} (h : SR w0 w8 br a N c at') (hl : SL w0 w8 sb st p k la q lc l) (hg : (w8.alloc o).grownBy w9 (Value.slice la q lc).ownBlock) (ho : w9.ownsRow w0.heap.size 52 3 (.slice la' (q + 1) lc') (q + 1) (seCs l')) (hlt : br < w0.heap.size) (hsb : w0.heap.size < sb) :
    SR w0 (w9.setCell ⟨sb, 3, none⟩ (.slice la' (q + 1) lc')) br a N c at' ∧ SL w0 (w9.setCell ⟨sb, 3, none⟩ (.slice la' (q + 1) lc')) sb st p k la' (q + 1) lc' l' := by
  have hb := box_app hl.row hg hl.box (by decide)
  refine ⟨⟨other_blk (box_app hl.row hg h.rd (by decide)) (by omega), other_blk (box_app hl.row hg h.rs (by decide)) (by omega), ?_⟩, ⟨same_blk hb rfl, owns_same ho (fun j hj => Below.heap_setCell _ _ _ j (fun e => ?_))⟩⟩
  · refine ⟨hg.os.trans h.chg.os, hg.tape.trans h.chg.tape, hg.output.trans h.chg.output, ?_, fun j hj hn => ?_⟩
    · have := h.chg.size
      have h2 := hg.size
      simp at h2 ⊢
      omega
    · rw [Below.heap_setCell _ _ _ j (fun e => by simp only at e; omega), hg.block j (by simp; have := h.chg.size; omega) (fun e => by have := (hl.row.lt j e.symm).1; omega), Below.heap_alloc _ _ j (by have := h.chg.size; omega), h.chg.block j hj hn]
  · obtain ⟨cur, hc⟩ := owns_kind ho hj
    rw [show j = sb from e, hb] at hc
    cases hc
theorem put4_chg (W : World) (g : Nat) (x0 x1 x2 x3 : Value) : Chg W (put_4 W g x0 x1 x2 x3) (fun j => j = g) := by
  have e : ∀ (W : World) (o : Nat) (v : Value), Chg W (W.setCell ⟨g, o, none⟩ v) (fun j => j = g) := fun W o v => Chg.set W ⟨g, o, none⟩ v
  exact (((e _ _ _).trans (e _ _ _)).trans (e _ _ _)).trans (e _ _ _)
theorem shot_end {xs : List Int} {w wr : World} {br sb : Nat} {a : Option Addr} {N c : Nat} {aq st : Int} {p : ByteArray} {k : Int} {la : Option Addr} {q lc : Nat} {l : List SeenT} (HR : SR w wr br a N c aq) (HL : SL w wr sb st p k la q lc l) (h : rdShot xs = some ⟨st, p, k, l, aq⟩) (hl : l.length = q) (hlt : br < w.heap.size) :
    ShotEnd xs w (put_4 wr w.heap.size (.int .i64 st) (.string p) (.int .i64 k) (.slice la q lc)) br a N c (.returned (.agg (shA st p k la q lc))) := by
  have hrow := HL.row
  have hkeep := put4_chg wr w.heap.size (.int .i64 st) (.string p) (.int .i64 k) (.slice la q lc)
  have hrow' := owns_same hrow (fun j hj => hkeep.block j (hrow.lt j hj).2 (fun e => by
    obtain ⟨cur, hcu⟩ := owns_kind hrow hj
    rw [e, HR.rs] at hcu
    cases hcu))
  have hcap : q ≤ lc := by
    rcases hrow.2 with ⟨h0, h1⟩ | ⟨g, cap, cur, hv, _, _, hn, _⟩
    · cases h0; omega
    · cases hv; exact hn
  have hnil : la = none → lc = 0 := by
    obtain ⟨a', c', hv, hn⟩ := owns_form hrow
    cases hv
    exact hn
  have hrd := other_chg (b := br) (br := w.heap.size) hkeep HR.rd (by omega)
  unfold ShotEnd
  rw [h]
  refine ⟨la, lc, by rw [hl], ss_of_row hrow', by rw [hl]; exact hcap, hnil, hrd, (fun b o hb => (hrow.lt b (by rw [hb]; rfl)).1), ⟨hkeep.os.trans HR.chg.os, hkeep.tape.trans HR.chg.tape, hkeep.output.trans HR.chg.output, Nat.le_trans HR.chg.size hkeep.size, fun j hj hn => ?_⟩⟩
  rw [hkeep.block j (Nat.lt_of_lt_of_le hj HR.chg.size) (by omega)]
  exact HR.chg.block j hj hn
set_option maxHeartbeats 6400000 in
set_option maxRecDepth 100000 in
theorem rShot_any (br : Nat) (a : Option Addr) (c : Nat) (xs : List Int) (w : World) (h : RdAt w br a xs.length c 0) (hx : Bys w a xs) (hb : Byt xs) (hm : xs.length ≤ 1000000) (hc : xs.length ≤ c) (hcm : c ≤ maxLen) (hne : xs ≠ [] → ∀ b o, a = some ⟨b, o, none⟩ → ¬ b = br) :
    Calls Tryz.prog 28 #[.pointer (some ⟨br, 0, none⟩)] w fun e w' => ShotEnd xs w w' br a xs.length c e := by
  have hlt := lt_of_blk h
  have H0 : Hid (SR w (w.alloc (.cells shZ 24)) br a xs.length c 0) := ⟨new_old h _, heap_alloc_new _ _, Chg.alloc _ _ _⟩
  have HBY : Hid (∀ w', Chg w w' (fun j => j = br) → Bys w' a xs) := fun w' hc => hx.chg hc hne
  have HNB : Hid (∀ (at' : Int) (w' : World), Chg w w' (fun j => j = br) → RdAt w' br a xs.length c at' → (rdAny at' xs).2.2 ≠ 0 → Calls Tryz.prog 58 #[.pointer (some ⟨br, 0, none⟩)] w' fun e w'' => e = .panicked PN ∧ Below w'.heap.size w' w'') := fun at' w' hg hr h => rNumber_bad br a c xs at' w' hr (HBY.out w' hg) hb hm h
  have HNO : Hid (∀ (at' v nx : Int) (w' : World), Chg w w' (fun j => j = br) → RdAt w' br a xs.length c at' → rdAny at' xs = (v, nx, 0) → Calls Tryz.prog 58 #[.pointer (some ⟨br, 0, none⟩)] w' fun e w'' => e = .returned (.int .i64 v) ∧ RdAt w'' br a xs.length c nx ∧ Chg w' w'' (fun j => j = br)) := fun at' v nx w' hg hr h => rNumber_ok br a c xs at' v nx w' hr (HBY.out w' hg) hb hm h
  have HTB : Hid (∀ (at' : Int) (w' : World), Chg w w' (fun j => j = br) → RdAt w' br a xs.length c at' → (rtAny at' xs).2.2 ≠ 0 → Calls Tryz.prog 59 #[.pointer (some ⟨br, 0, none⟩)] w' fun e w'' => e = .panicked PN ∧ Below w'.heap.size w' w'') := fun at' w' hg hr h => rText_bad br a c xs at' w' hr (HBY.out w' hg) hb hm hc hcm h
  have HTO : Hid (∀ (at' : Int) (v : ByteArray) (nx : Int) (w' : World), Chg w w' (fun j => j = br) → RdAt w' br a xs.length c at' → rtAny at' xs = (v, nx, 0) → Calls Tryz.prog 59 #[.pointer (some ⟨br, 0, none⟩)] w' fun e w'' => e = .returned (.string v) ∧ RdAt w'' br a xs.length c nx ∧ Chg w' w'' (fun j => j = br)) := fun at' v nx w' hg hr h => rText_ok br a c xs at' v nx w' hr (HBY.out w' hg) hb hm hc hcm h
  have HB : Hid (Byt xs) := hb
  obtain ⟨N, hN⟩ : ∃ N, xs.length = N := ⟨_, rfl⟩
  rw [hN] at H0 HNB HNO HTB HTO ⊢
  have HEN : Hid (∀ args w, (callFunc 58 args).run Tryz.prog w = .ok (.enter 58 args) w) := enters_of Tryz.func58 (by kernel_rfl) rfl
  have HET : Hid (∀ args w, (callFunc 59 args).run Tryz.prog w = .ok (.enter 59 args) w) := enters_of Tryz.func59 (by kernel_rfl) rfl
  obtain ⟨i0, hi, hz0, hz1, hz2⟩ := info_parts Tryz.infoS
  clear h hx hb hm hc hcm hne hN
  go_enter Tryz.func28, Tryz.ntmps28
  go_wp2_with fail
  rcases rd_split 0 xs with h1 | ⟨st, a1, h1⟩
  · have HE1 : Hid ((rdAny 0 xs).2.2 ≠ 0) := h1
    clear h1
    refine (HNB.out 0 _ H0.out.chg H0.out.rd HE1.out).mono ?_
    rintro e w9 ⟨rfl, hb9⟩
    have HC9 : Hid (Chg w w9 (fun j => j = br)) := H0.out.chg.trans (Chg.of_below hb9 _)
    clear hb9
    go_wp2_with fail
    exact ⟨rfl, ShotEnd.bad (rdShot_none (rdHead_1 HE1.out)) HC9.out⟩
  · have HE1 : Hid (rdAny 0 xs = (st, a1, 0)) := h1
    clear h1
    refine (HNO.out 0 st a1 _ H0.out.chg H0.out.rd HE1.out).mono ?_
    rintro e w1 ⟨rfl, hr9, hc9⟩
    have H1 : Hid (SR w w1 br a N c a1) := H0.out.step hlt hr9 hc9
    clear hr9 hc9
    go_wp2_with fail
    rcases rt_split a1 xs with h2 | ⟨p, a2, h2⟩
    · have HE2 : Hid ((rtAny a1 xs).2.2 ≠ 0) := h2
      clear h2
      refine (HTB.out a1 _ H1.out.chg H1.out.rd HE2.out).mono ?_
      rintro e w9 ⟨rfl, hb9⟩
      have HC9 : Hid (Chg w w9 (fun j => j = br)) := H1.out.chg.trans (Chg.of_below hb9 _)
      clear hb9
      go_wp2_with fail
      exact ⟨rfl, ShotEnd.bad (rdShot_none (rdHead_2 HE1.out HE2.out)) HC9.out⟩
    · have HE2 : Hid (rtAny a1 xs = (p, a2, 0)) := h2
      clear h2
      refine (HTO.out a1 p a2 _ H1.out.chg H1.out.rd HE2.out).mono ?_
      rintro e w2 ⟨rfl, hr9, hc9⟩
      have H2 : Hid (SR w w2 br a N c a2) := H1.out.step hlt hr9 hc9
      clear hr9 hc9
      go_wp2_with fail
      rcases rd_split a2 xs with h3 | ⟨k, a3, h3⟩
      · have HE3 : Hid ((rdAny a2 xs).2.2 ≠ 0) := h3
        clear h3
        refine (HNB.out a2 _ H2.out.chg H2.out.rd HE3.out).mono ?_
        rintro e w9 ⟨rfl, hb9⟩
        have HC9 : Hid (Chg w w9 (fun j => j = br)) := H2.out.chg.trans (Chg.of_below hb9 _)
        clear hb9
        go_wp2_with fail
        exact ⟨rfl, ShotEnd.bad (rdShot_none (rdHead_3 HE1.out HE2.out HE3.out)) HC9.out⟩
      · have HE3 : Hid (rdAny a2 xs = (k, a3, 0)) := h3
        clear h3
        refine (HNO.out a2 k a3 _ H2.out.chg H2.out.rd HE3.out).mono ?_
        rintro e w3 ⟨rfl, hr9, hc9⟩
        have H3 : Hid (SR w w3 br a N c a3) := H2.out.step hlt hr9 hc9
        have H3' : Hid (SR w (w3.alloc (.cells (shA st p k none 0 0) 24)) br a N c a3) := H3.out.alloc _
        have HL3 : Hid (SL w (w3.alloc (.cells (shA st p k none 0 0) 24)) w3.heap.size st p k none 0 0 []) := ⟨heap_alloc_new _ _, World.ownsRow_nil _ _ _ _⟩
        clear hr9 hc9
        go_wp2_with fail
        rcases rd_split a3 xs with h4 | ⟨cnt, a4, h4⟩
        · have HE4 : Hid ((rdAny a3 xs).2.2 ≠ 0) := h4
          clear h4
          refine (HNB.out a3 _ H3'.out.chg H3'.out.rd HE4.out).mono ?_
          rintro e w9 ⟨rfl, hb9⟩
          have HC9 : Hid (Chg w w9 (fun j => j = br)) := H3'.out.chg.trans (Chg.of_below hb9 _)
          clear hb9
          go_wp2_with fail
          exact ⟨rfl, ShotEnd.bad (rdShot_none (rdHead_4 HE1.out HE2.out HE3.out HE4.out)) HC9.out⟩
        · obtain ⟨m, rfl, hm2⟩ := rd_nat HB.out h4
          have HE4 : Hid (rdAny a3 xs = ((m : Int), a4, 0)) := h4
          have HHD : Hid (rdHead xs = some ⟨st, p, k, (m : Int), a4⟩) := rdHead_5 HE1.out HE2.out HE3.out h4
          clear h4
          refine (HNO.out a3 m a4 _ H3'.out.chg H3'.out.rd HE4.out).mono ?_
          rintro e w4 ⟨rfl, hr9, hc9⟩
          have H4 : Hid (SR w w4 br a N c a4) := H3'.out.step hlt hr9 hc9
          have HL4 : Hid (SL w w4 w3.heap.size st p k none 0 0 []) := HL3.out.step H3'.out.rd hc9
          clear hr9 hc9
          by_cases h64 : m ≤ 64
          · have h64' : (m : Int) ≤ 64 := by omega
            go_wp2_with fail
            refine (must_true _).mono ?_
            rintro e w5 ⟨rfl, rfl⟩
            go_wp2_with fail
            have hsb : w.heap.size < w3.heap.size := lt_of_blk H3.out.rs
            go_loopw [18] (fun i wr => ∃ (q : Nat) (l : List SeenT) (aq : Int) (la : Option Addr) (lc : Nat), i = .int .i64 q ∧ q ≤ m ∧ Hid (rdMany xs a4 q = some (l, aq)) ∧ Hid (SR w wr br a N c aq) ∧ Hid (SL w wr w3.heap.size st p k la q lc l)) (fun i _ => m - (intOf i).toNat)
            case atStart => exact ⟨0, [], a4, none, 0, rfl, Nat.zero_le _, rfl, H4, HL4⟩
            case round =>
              obtain ⟨q, l, aq, la, lc, rfl, hq, HM, HR, HL⟩ := hrel
              by_cases hqm : q < m
              · have hqm' : (q : Int) < (m : Int) := by omega
                obtain ⟨s0, s1, s2, s3⟩ := cells_4 HL.out.box
                have hsw : w3.heap.size < wr.heap.size := lt_of_blk HL.out.box
                have HRC : Hid (Chg w wr.drew (fun j => j = br)) := HR.out.chg.drew
                rcases rt_split aq xs with h5 | ⟨p1, a5, h5⟩
                · have HE5 : Hid ((rtAny aq xs).2.2 ≠ 0) := h5
                  have HNO9 : Hid (rdShot xs = none) := rdShot_bad HHD.out (rdMany_none (rdMany_no HM.out (rdOne_1 h5)) (by omega))
                  clear h5
                  go_wp2_with fail
                  refine wp_region_any (by kernel_rfl) ?_
                  try (change wpAny _ _ _ _ _ _ _ (World.drew _))
                  refine wpAny_take (i := 0) (v := ?v0x3) rfl (by kernel_rfl) (by kernel_rfl) (by kernel_rfl) (fun _ _ _ h => h) (Or.inl ⟨by rfl, ?hy0x3⟩) ?h0x3
                  case hy0x3 => intro w; go_simp <;> with_reducible rfl
                  try simp only [Act.put, List.setIfInBounds_toArray, List.set_cons_zero, List.set_cons_succ]
                  refine wpAny_take (i := 2) (v := ?v2x3) rfl (by kernel_rfl) (by kernel_rfl) (by kernel_rfl) (fun _ _ _ h => h) (Or.inl ⟨by rfl, ?hy2x3⟩) ?h2x3
                  case hy2x3 => intro w; go_simp <;> with_reducible rfl
                  try simp only [Act.put, List.setIfInBounds_toArray, List.set_cons_zero, List.set_cons_succ]
                  refine wpAny_take (i := 4) (v := ?v4x3) rfl (by kernel_rfl) (by kernel_rfl) (by kernel_rfl) (fun _ _ _ h => h) (Or.inl ⟨by rfl, ?hy4x3⟩) ?h4x3
                  case hy4x3 => intro w; go_simp <;> with_reducible rfl
                  try simp only [Act.put, List.setIfInBounds_toArray, List.set_cons_zero, List.set_cons_succ]
                  refine wpAny_take (i := 6) (v := ?v6x3) rfl (by kernel_rfl) (by kernel_rfl) (by kernel_rfl) (fun _ _ _ h => h) (Or.inl ⟨by rfl, ?hy6x3⟩) ?h6x3
                  case hy6x3 => intro w; go_simp <;> with_reducible rfl
                  try simp only [Act.put, List.setIfInBounds_toArray, List.set_cons_zero, List.set_cons_succ]
                  refine wpAny_ready (rs := [1, 3]) (by kernel_rfl) (by simp) ?_
                  refine AllReady.cons rfl (fun K hK => ?_) ?_
                  · go_simp
                    refine hK _ _ ?_
                    clear hK K
                    refine wpAny_ready (rs := [3]) (by kernel_rfl) (by simp) ?_
                    refine AllReady.cons rfl (fun K hK => ?_) AllReady.nil
                    go_simp
                    refine (HTB.out aq _ HRC.out HR.out.rd HE5.out).mono ?_
                    rintro e w9 ⟨rfl, hb9⟩
                    exact ⟨rfl, ShotEnd.bad HNO9.out (HRC.out.trans (Chg.of_below hb9 _))⟩
                  refine AllReady.cons rfl (fun K hK => ?_) AllReady.nil
                  go_simp
                  refine (HTB.out aq _ HRC.out HR.out.rd HE5.out).mono ?_
                  rintro e w9 ⟨rfl, hb9⟩
                  exact ⟨rfl, ShotEnd.bad HNO9.out (HRC.out.trans (Chg.of_below hb9 _))⟩
                · have HE5 : Hid (rtAny aq xs = (p1, a5, 0)) := h5
                  clear h5
                  rcases rt_split a5 xs with h6 | ⟨d1, a6, h6⟩
                  · have HE6 : Hid ((rtAny a5 xs).2.2 ≠ 0) := h6
                    have HNO9 : Hid (rdShot xs = none) := rdShot_bad HHD.out (rdMany_none (rdMany_no HM.out (rdOne_2 HE5.out h6)) (by omega))
                    clear h6
                    go_wp2_with fail
                    refine wp_region_any (by kernel_rfl) ?_
                    try (change wpAny _ _ _ _ _ _ _ (World.drew _))
                    refine wpAny_take (i := 0) (v := ?v0x5) rfl (by kernel_rfl) (by kernel_rfl) (by kernel_rfl) (fun _ _ _ h => h) (Or.inl ⟨by rfl, ?hy0x5⟩) ?h0x5
                    case hy0x5 => intro w; go_simp <;> with_reducible rfl
                    try simp only [Act.put, List.setIfInBounds_toArray, List.set_cons_zero, List.set_cons_succ]
                    refine wpAny_take (i := 2) (v := ?v2x5) rfl (by kernel_rfl) (by kernel_rfl) (by kernel_rfl) (fun _ _ _ h => h) (Or.inl ⟨by rfl, ?hy2x5⟩) ?h2x5
                    case hy2x5 => intro w; go_simp <;> with_reducible rfl
                    try simp only [Act.put, List.setIfInBounds_toArray, List.set_cons_zero, List.set_cons_succ]
                    refine wpAny_take (i := 4) (v := ?v4x5) rfl (by kernel_rfl) (by kernel_rfl) (by kernel_rfl) (fun _ _ _ h => h) (Or.inl ⟨by rfl, ?hy4x5⟩) ?h4x5
                    case hy4x5 => intro w; go_simp <;> with_reducible rfl
                    try simp only [Act.put, List.setIfInBounds_toArray, List.set_cons_zero, List.set_cons_succ]
                    refine wpAny_take (i := 6) (v := ?v6x5) rfl (by kernel_rfl) (by kernel_rfl) (by kernel_rfl) (fun _ _ _ h => h) (Or.inl ⟨by rfl, ?hy6x5⟩) ?h6x5
                    case hy6x5 => intro w; go_simp <;> with_reducible rfl
                    try simp only [Act.put, List.setIfInBounds_toArray, List.set_cons_zero, List.set_cons_succ]
                    refine wpAny_ready (rs := [1, 3]) (by kernel_rfl) (by simp) ?_
                    refine AllReady.cons rfl (fun K hK => ?_) ?_
                    · go_simp
                      refine hK _ _ ?_
                      clear hK K
                      refine wpAny_ready (rs := [3]) (by kernel_rfl) (by simp) ?_
                      refine AllReady.cons rfl (fun K hK => ?_) AllReady.nil
                      go_simp
                      refine (HTO.out aq p1 a5 _ HRC.out HR.out.rd HE5.out).mono ?_
                      rintro e w6 ⟨rfl, hr6, hc6⟩
                      have H6 : Hid (SR w w6 br a N c a5) := HR.out.step hlt hr6 ((Chg.drew (Chg.refl _ _)).trans hc6)
                      have HL6 : Hid (SL w w6 w3.heap.size st p k la q lc l) := HL.out.step HR.out.rd ((Chg.drew (Chg.refl _ _)).trans hc6)
                      clear hr6 hc6 s0 s1 s2 s3
                      obtain ⟨s0, s1, s2, s3⟩ := cells_4 HL6.out.box
                      go_wp2_with fail
                      try refine hK _ _ ?_
                      try clear hK K
                      refine wpAny_ready (rs := [5]) (by kernel_rfl) (by simp) ?_
                      refine AllReady.cons rfl (fun K hK => ?_) AllReady.nil
                      go_simp
                      refine (HTB.out a5 w6 H6.out.chg H6.out.rd HE6.out).mono ?_
                      rintro e w9 ⟨rfl, hb9⟩
                      exact ⟨rfl, ShotEnd.bad HNO9.out (H6.out.chg.trans (Chg.of_below hb9 _))⟩
                    refine AllReady.cons rfl (fun K hK => ?_) AllReady.nil
                    go_simp
                    refine (HTO.out aq p1 a5 _ HRC.out HR.out.rd HE5.out).mono ?_
                    rintro e w6 ⟨rfl, hr6, hc6⟩
                    have H6 : Hid (SR w w6 br a N c a5) := HR.out.step hlt hr6 ((Chg.drew (Chg.refl _ _)).trans hc6)
                    have HL6 : Hid (SL w w6 w3.heap.size st p k la q lc l) := HL.out.step HR.out.rd ((Chg.drew (Chg.refl _ _)).trans hc6)
                    clear hr6 hc6 s0 s1 s2 s3
                    obtain ⟨s0, s1, s2, s3⟩ := cells_4 HL6.out.box
                    go_wp2_with fail
                    try refine hK _ _ ?_
                    try clear hK K
                    refine wpAny_ready (rs := [1, 5]) (by kernel_rfl) (by simp) ?_
                    refine AllReady.cons rfl (fun K hK => ?_) ?_
                    · go_simp
                      refine hK _ _ ?_
                      clear hK K
                      refine wpAny_ready (rs := [5]) (by kernel_rfl) (by simp) ?_
                      refine AllReady.cons rfl (fun K hK => ?_) AllReady.nil
                      go_simp
                      refine (HTB.out a5 w6 H6.out.chg H6.out.rd HE6.out).mono ?_
                      rintro e w9 ⟨rfl, hb9⟩
                      exact ⟨rfl, ShotEnd.bad HNO9.out (H6.out.chg.trans (Chg.of_below hb9 _))⟩
                    refine AllReady.cons rfl (fun K hK => ?_) AllReady.nil
                    go_simp
                    refine (HTB.out a5 w6 H6.out.chg H6.out.rd HE6.out).mono ?_
                    rintro e w9 ⟨rfl, hb9⟩
                    exact ⟨rfl, ShotEnd.bad HNO9.out (H6.out.chg.trans (Chg.of_below hb9 _))⟩
                  · have HE6 : Hid (rtAny a5 xs = (d1, a6, 0)) := h6
                    clear h6
                    rcases rd_split a6 xs with h7 | ⟨v1, a7, h7⟩
                    · have HE7 : Hid ((rdAny a6 xs).2.2 ≠ 0) := h7
                      have HNO9 : Hid (rdShot xs = none) := rdShot_bad HHD.out (rdMany_none (rdMany_no HM.out (rdOne_3 HE5.out HE6.out h7)) (by omega))
                      clear h7
                      go_wp2_with fail
                      refine wp_region_any (by kernel_rfl) ?_
                      try (change wpAny _ _ _ _ _ _ _ (World.drew _))
                      refine wpAny_take (i := 0) (v := ?v0x7) rfl (by kernel_rfl) (by kernel_rfl) (by kernel_rfl) (fun _ _ _ h => h) (Or.inl ⟨by rfl, ?hy0x7⟩) ?h0x7
                      case hy0x7 => intro w; go_simp <;> with_reducible rfl
                      try simp only [Act.put, List.setIfInBounds_toArray, List.set_cons_zero, List.set_cons_succ]
                      refine wpAny_take (i := 2) (v := ?v2x7) rfl (by kernel_rfl) (by kernel_rfl) (by kernel_rfl) (fun _ _ _ h => h) (Or.inl ⟨by rfl, ?hy2x7⟩) ?h2x7
                      case hy2x7 => intro w; go_simp <;> with_reducible rfl
                      try simp only [Act.put, List.setIfInBounds_toArray, List.set_cons_zero, List.set_cons_succ]
                      refine wpAny_take (i := 4) (v := ?v4x7) rfl (by kernel_rfl) (by kernel_rfl) (by kernel_rfl) (fun _ _ _ h => h) (Or.inl ⟨by rfl, ?hy4x7⟩) ?h4x7
                      case hy4x7 => intro w; go_simp <;> with_reducible rfl
                      try simp only [Act.put, List.setIfInBounds_toArray, List.set_cons_zero, List.set_cons_succ]
                      refine wpAny_take (i := 6) (v := ?v6x7) rfl (by kernel_rfl) (by kernel_rfl) (by kernel_rfl) (fun _ _ _ h => h) (Or.inl ⟨by rfl, ?hy6x7⟩) ?h6x7
                      case hy6x7 => intro w; go_simp <;> with_reducible rfl
                      try simp only [Act.put, List.setIfInBounds_toArray, List.set_cons_zero, List.set_cons_succ]
                      refine wpAny_ready (rs := [1, 3]) (by kernel_rfl) (by simp) ?_
                      refine AllReady.cons rfl (fun K hK => ?_) ?_
                      · go_simp
                        refine hK _ _ ?_
                        clear hK K
                        refine wpAny_ready (rs := [3]) (by kernel_rfl) (by simp) ?_
                        refine AllReady.cons rfl (fun K hK => ?_) AllReady.nil
                        go_simp
                        refine (HTO.out aq p1 a5 _ HRC.out HR.out.rd HE5.out).mono ?_
                        rintro e w6 ⟨rfl, hr6, hc6⟩
                        have H6 : Hid (SR w w6 br a N c a5) := HR.out.step hlt hr6 ((Chg.drew (Chg.refl _ _)).trans hc6)
                        have HL6 : Hid (SL w w6 w3.heap.size st p k la q lc l) := HL.out.step HR.out.rd ((Chg.drew (Chg.refl _ _)).trans hc6)
                        clear hr6 hc6 s0 s1 s2 s3
                        obtain ⟨s0, s1, s2, s3⟩ := cells_4 HL6.out.box
                        go_wp2_with fail
                        try refine hK _ _ ?_
                        try clear hK K
                        refine wpAny_ready (rs := [5]) (by kernel_rfl) (by simp) ?_
                        refine AllReady.cons rfl (fun K hK => ?_) AllReady.nil
                        go_simp
                        refine (HTO.out a5 d1 a6 w6 H6.out.chg H6.out.rd HE6.out).mono ?_
                        rintro e w7 ⟨rfl, hr7, hc7⟩
                        have H7 : Hid (SR w w7 br a N c a6) := H6.out.step hlt hr7 hc7
                        have HL7 : Hid (SL w w7 w3.heap.size st p k la q lc l) := HL6.out.step H6.out.rd hc7
                        clear hr7 hc7 s0 s1 s2 s3
                        obtain ⟨s0, s1, s2, s3⟩ := cells_4 HL7.out.box
                        go_wp2_with fail
                        try refine hK _ _ ?_
                        try clear hK K
                        refine wpAny_ready (rs := [7]) (by kernel_rfl) (by simp) ?_
                        refine AllReady.cons rfl (fun K hK => ?_) AllReady.nil
                        go_simp
                        refine (HNB.out a6 w7 H7.out.chg H7.out.rd HE7.out).mono ?_
                        rintro e w9 ⟨rfl, hb9⟩
                        exact ⟨rfl, ShotEnd.bad HNO9.out (H7.out.chg.trans (Chg.of_below hb9 _))⟩
                      refine AllReady.cons rfl (fun K hK => ?_) AllReady.nil
                      go_simp
                      refine (HTO.out aq p1 a5 _ HRC.out HR.out.rd HE5.out).mono ?_
                      rintro e w6 ⟨rfl, hr6, hc6⟩
                      have H6 : Hid (SR w w6 br a N c a5) := HR.out.step hlt hr6 ((Chg.drew (Chg.refl _ _)).trans hc6)
                      have HL6 : Hid (SL w w6 w3.heap.size st p k la q lc l) := HL.out.step HR.out.rd ((Chg.drew (Chg.refl _ _)).trans hc6)
                      clear hr6 hc6 s0 s1 s2 s3
                      obtain ⟨s0, s1, s2, s3⟩ := cells_4 HL6.out.box
                      go_wp2_with fail
                      try refine hK _ _ ?_
                      try clear hK K
                      refine wpAny_ready (rs := [1, 5]) (by kernel_rfl) (by simp) ?_
                      refine AllReady.cons rfl (fun K hK => ?_) ?_
                      · go_simp
                        refine hK _ _ ?_
                        clear hK K
                        refine wpAny_ready (rs := [5]) (by kernel_rfl) (by simp) ?_
                        refine AllReady.cons rfl (fun K hK => ?_) AllReady.nil
                        go_simp
                        refine (HTO.out a5 d1 a6 w6 H6.out.chg H6.out.rd HE6.out).mono ?_
                        rintro e w7 ⟨rfl, hr7, hc7⟩
                        have H7 : Hid (SR w w7 br a N c a6) := H6.out.step hlt hr7 hc7
                        have HL7 : Hid (SL w w7 w3.heap.size st p k la q lc l) := HL6.out.step H6.out.rd hc7
                        clear hr7 hc7 s0 s1 s2 s3
                        obtain ⟨s0, s1, s2, s3⟩ := cells_4 HL7.out.box
                        go_wp2_with fail
                        try refine hK _ _ ?_
                        try clear hK K
                        refine wpAny_ready (rs := [7]) (by kernel_rfl) (by simp) ?_
                        refine AllReady.cons rfl (fun K hK => ?_) AllReady.nil
                        go_simp
                        refine (HNB.out a6 w7 H7.out.chg H7.out.rd HE7.out).mono ?_
                        rintro e w9 ⟨rfl, hb9⟩
                        exact ⟨rfl, ShotEnd.bad HNO9.out (H7.out.chg.trans (Chg.of_below hb9 _))⟩
                      refine AllReady.cons rfl (fun K hK => ?_) AllReady.nil
                      go_simp
                      refine (HTO.out a5 d1 a6 w6 H6.out.chg H6.out.rd HE6.out).mono ?_
                      rintro e w7 ⟨rfl, hr7, hc7⟩
                      have H7 : Hid (SR w w7 br a N c a6) := H6.out.step hlt hr7 hc7
                      have HL7 : Hid (SL w w7 w3.heap.size st p k la q lc l) := HL6.out.step H6.out.rd hc7
                      clear hr7 hc7 s0 s1 s2 s3
                      obtain ⟨s0, s1, s2, s3⟩ := cells_4 HL7.out.box
                      go_wp2_with fail
                      try refine hK _ _ ?_
                      try clear hK K
                      refine wpAny_ready (rs := [1, 7]) (by kernel_rfl) (by simp) ?_
                      refine AllReady.cons rfl (fun K hK => ?_) ?_
                      · go_simp
                        refine hK _ _ ?_
                        clear hK K
                        refine wpAny_ready (rs := [7]) (by kernel_rfl) (by simp) ?_
                        refine AllReady.cons rfl (fun K hK => ?_) AllReady.nil
                        go_simp
                        refine (HNB.out a6 w7 H7.out.chg H7.out.rd HE7.out).mono ?_
                        rintro e w9 ⟨rfl, hb9⟩
                        exact ⟨rfl, ShotEnd.bad HNO9.out (H7.out.chg.trans (Chg.of_below hb9 _))⟩
                      refine AllReady.cons rfl (fun K hK => ?_) AllReady.nil
                      go_simp
                      refine (HNB.out a6 w7 H7.out.chg H7.out.rd HE7.out).mono ?_
                      rintro e w9 ⟨rfl, hb9⟩
                      exact ⟨rfl, ShotEnd.bad HNO9.out (H7.out.chg.trans (Chg.of_below hb9 _))⟩
                    · have HE7 : Hid (rdAny a6 xs = (v1, a7, 0)) := h7
                      have HMS : Hid (rdMany xs a4 (q + 1) = some (l ++ [⟨p1, d1, v1⟩], a7)) := rdMany_step HM.out (rdOne_4 HE5.out HE6.out h7)
                      clear h7
                      go_wp2_with fail
                      go_region_law
                        (first
                        | (refine step_append_own (by rfl) _ _ _ (by rfl) w.heap.size 52 i0 _ 3 40 Tryz.underlying22 hi hz0 hz1 hz2 rfl (by decide) (.slice la q lc) q (seCs l) (by rfl) (World.ownsRow.alloc HL8.out.row _) ⟨w8.heap.size, 0, none⟩ 1 1 [.string p1, .string d1, .int .i64 v1] (by rfl) (by rfl) (World.news_of_block (cs := #[.string p1, .string d1, .int .i64 v1]) (t := 52) (fr := (0, 0)) (heap_alloc_new w8 _)) (by simp [Value.oneCell']) (by unfold maxLen; omega) (by omega) (by have := H8.out.chg.size; simp; omega) ?_
                           intro v9 w9 ho9 hg9 hat9
                           obtain ⟨la', lc', rfl, hn9⟩ := owns_form ho9
                           have HAP : Hid (SR w (w9.setCell ⟨w3.heap.size, 3, none⟩ (.slice la' (q + 1) lc')) br a N c a7 ∧ SL w (w9.setCell ⟨w3.heap.size, 3, none⟩ (.slice la' (q + 1) lc')) w3.heap.size st p k la' (q + 1) lc' (l ++ [⟨p1, d1, v1⟩])) := SR.app H8.out HL8.out hg9 (by rw [seCs_append]; exact ho9) hlt hsb
                           have HB9 : Hid (w9.heap[w3.heap.size]? = some (.cells (shA st p k la q lc) 24 (0, 0))) := box_app HL8.out.row hg9 HL8.out.box (by decide)
                           clear s0 s1 s2 s3 ho9 hg9 hat9 hn9
                           obtain ⟨s0, s1, s2, s3⟩ := cells_4 HB9.out
                           have f4 := free_4 HB9.out)
                        | (refine step_call1 (by rfl) 58 _ _ (by rfl) HEN.out (.pointer (some ⟨br, 0, none⟩)) (by rfl) (HNO.out a6 v1 a7 w7 H7.out.chg H7.out.rd HE7.out) (.int .i64 v1) (fun _ _ h => h.1) ?_
                           intro w8 hR8
                           have H8 : Hid (SR w w8 br a N c a7) := H7.out.step hlt hR8.2.1 hR8.2.2
                           have HL8 : Hid (SL w w8 w3.heap.size st p k la q lc l) := HL7.out.step H7.out.rd hR8.2.2
                           clear hR8 s0 s1 s2 s3
                           obtain ⟨s0, s1, s2, s3⟩ := cells_4 HL8.out.box
                           have hs8 : w3.heap.size < w8.heap.size := lt_of_blk HL8.out.box
                           have sA : ∀ ob o, (w8.alloc ob).cell? ⟨w3.heap.size, o, none⟩ = w8.cell? ⟨w3.heap.size, o, none⟩ := (fun ob o => World.cell?_of_block (Below.heap_alloc w8 ob _ hs8)))
                        | (refine step_call1 (by rfl) 59 _ _ (by rfl) HET.out (.pointer (some ⟨br, 0, none⟩)) (by rfl) (HTO.out a5 d1 a6 w6 H6.out.chg H6.out.rd HE6.out) (.string d1) (fun _ _ h => h.1) ?_
                           intro w7 hR7
                           have H7 : Hid (SR w w7 br a N c a6) := H6.out.step hlt hR7.2.1 hR7.2.2
                           have HL7 : Hid (SL w w7 w3.heap.size st p k la q lc l) := HL6.out.step H6.out.rd hR7.2.2
                           clear hR7 s0 s1 s2 s3
                           obtain ⟨s0, s1, s2, s3⟩ := cells_4 HL7.out.box)
                        | (refine step_call1 (by rfl) 59 _ _ (by rfl) HET.out (.pointer (some ⟨br, 0, none⟩)) (by rfl) (HTO.out aq p1 a5 _ HRC.out HR.out.rd HE5.out) (.string p1) (fun _ _ h => h.1) ?_
                           intro w6 hR6
                           have H6 : Hid (SR w w6 br a N c a5) := HR.out.step hlt hR6.2.1 ((Chg.drew (Chg.refl _ _)).trans hR6.2.2)
                           have HL6 : Hid (SL w w6 w3.heap.size st p k la q lc l) := HL.out.step HR.out.rd ((Chg.drew (Chg.refl _ _)).trans hR6.2.2)
                           clear hR6 s0 s1 s2 s3
                           obtain ⟨s0, s1, s2, s3⟩ := cells_4 HL6.out.box))
                      all_goals
                        go_wp2_with fail
                        go_roundw
                        case rel => exact ⟨q + 1, l ++ [(⟨p1, d1, v1⟩ : SeenT)], a7, la', lc', by go_num, by omega, HMS, HAP.out.1, HAP.out.2⟩
                        case measure => first | (simp [intOf]; done) | (simp [intOf]; omega)
              · obtain rfl : q = m := by omega
                have hge : ¬ (q : Int) < (q : Int) := by omega
                obtain ⟨s0, s1, s2, s3⟩ := cells_4 HL.out.box
                have r4 := cells_4 HR.out.rs
                have f4 := free_4 HR.out.rs
                have HLN : Hid (l.length = q) := rdMany_len HM.out
                go_wp2_with fail
                refine bodyPost_ret (results_cell_row rfl _ _ w.heap.size 24 _ (0, 0) _ rfl (fill_4 HR.out.rs) Tryz.underlying24 rfl (by kernel_rfl)) rfl ?_
                exact shot_end HR.out HL.out (rdShot_ok HHD.out h64 HM.out) HLN.out hlt
          · have h64' : ¬ (m : Int) ≤ 64 := by omega
            have h64d : decide ((m : Int) ≤ 64) = false := decide_eq_false h64'
            have HC9 : Hid (Chg w w4 (fun j => j = br)) := H4.out.chg
            clear h64'
            have HMN : Hid (rdShot xs = none) := rdShot_many HHD.out (by omega)
            go_wp2_with fail
            refine (must_false _).mono ?_
            rintro e w5 ⟨rfl, rfl⟩
            go_wp2_with fail
            exact ⟨rfl, ShotEnd.bad HMN.out HC9.out⟩
end Go.Proofs.YtbamkdohaofgdaaGreatDoor.W
