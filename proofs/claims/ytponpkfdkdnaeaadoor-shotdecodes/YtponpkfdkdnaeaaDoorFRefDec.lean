import Derived.Test.YtponpkfdkdnaeaaDoorFRef
import Derived.Test.YtponpkfdkdnaeaaDoorFDec
import Derived.Test.YtponpkfdkdnaeaaDoorCRefCheck
namespace Go.Proofs.YtponpkfdkdnaeaaDoor
open Go.RowKit Classical
set_option linter.unusedVariables false
set_option linter.unusedSimpArgs false

theorem results_cell_tmp {P : Program} {fn : Func} {p q : Tmp} {ty : TypeId} (h : fn.results = #[.cell p ty, .tmp q]) (tmps : Array Value) (w : World) (g : Nat) (t : TypeId) (cs : Array Value) (fr : Nat × Nat) (d : TypeDesc) (v : Value)
    (hp : tmps.getD p undef = .pointer (some ⟨g, 0, none⟩)) (hq : tmps.getD q undef = v) (hg : w.heap[g]? = some (.cells cs t fr))
    (hu : P.underlying ty = some d) (hd : (match d with | .struct _ | .array _ _ => true | _ => false) = true) (hi : (P.info? ty).map (·.size) = some cs.size) :
    (results fn tmps).run P w = .ok (.tuple #[.agg cs, v]) w := by
  have hp' : tmps[p]?.getD undef = .pointer (some ⟨g, 0, none⟩) := by simpa using hp
  have hq' : tmps[q]?.getD undef = v := by simpa using hq
  simp [results, h, hp', hq', asAddr, run_loadVar_row w g t ty cs fr d hg hu hd hi]
/-- One step of the cursor. -/
def StepN (xs : List Int) (at' : Int) (bad : Bool) (v at2 : Int) (bad2 : Bool) : Prop := (bad = false ∧ rdAny at' xs = (v, at2, 0) ∧ bad2 = false) ∨ (bad2 = true ∧ v = 0 ∧ (bad = true ∨ (rdAny at' xs).2.2 ≠ 0))
def StepT (xs : List Int) (at' : Int) (bad : Bool) (v : ByteArray) (at2 : Int) (bad2 : Bool) : Prop := (bad = false ∧ rtAny at' xs = (v, at2, 0) ∧ bad2 = false) ∨ (bad2 = true ∧ v = ⟨#[]⟩ ∧ (bad = true ∨ (rtAny at' xs).2.2 ≠ 0))
theorem cNum_any (br : Nat) (a : Option Addr) (c : Nat) (xs : List Int) (at' : Int) (bad : Bool) (w : World) (h : CuAt w br a xs.length c at' bad) (hx : Bys w a xs) (hb : Byt xs) (hm : xs.length ≤ 1000000) :
    Calls Tryd.prog 13 #[.pointer (some ⟨br, 0, none⟩)] w fun e w' => ∃ v at2 bad2, e = .returned (.int .i64 v) ∧ CuAt w' br a xs.length c at2 bad2 ∧ Chg w w' (fun j => j = br) ∧ StepN xs at' bad v at2 bad2 := by
  cases bad with
  | true => exact (cNum_bad br a c xs at' w h hx hb hm).mono (fun e w' h => ⟨0, at', true, h.1, h.2.1, h.2.2, .inr ⟨rfl, rfl, .inl rfl⟩⟩)
  | false =>
    rcases rd_split at' xs with h1 | ⟨v, nx, h1⟩
    · exact (cNum_no br a c xs at' w h hx hb hm h1).mono (fun e w' h => ⟨0, at', true, h.1, h.2.1, h.2.2, .inr ⟨rfl, rfl, .inr h1⟩⟩)
    · exact (cNum_ok br a c xs at' v nx w h hx hb hm h1).mono (fun e w' h => ⟨v, nx, false, h.1, h.2.1, h.2.2, .inl ⟨rfl, h1, rfl⟩⟩)
theorem cTxt_any (br : Nat) (a : Option Addr) (c : Nat) (xs : List Int) (at' : Int) (bad : Bool) (w : World) (h : CuAt w br a xs.length c at' bad) (hx : Bys w a xs) (hb : Byt xs) (hm : xs.length ≤ 1000000) (hc : xs.length ≤ c) (hcm : c ≤ maxLen) :
    Calls Tryd.prog 14 #[.pointer (some ⟨br, 0, none⟩)] w fun e w' => ∃ v at2 bad2, e = .returned (.string v) ∧ CuAt w' br a xs.length c at2 bad2 ∧ Chg w w' (fun j => j = br) ∧ StepT xs at' bad v at2 bad2 := by
  cases bad with
  | true => exact (cTxt_bad br a c xs at' w h hx hb hm hc hcm).mono (fun e w' h => ⟨⟨#[]⟩, at', true, h.1, h.2.1, h.2.2, .inr ⟨rfl, rfl, .inl rfl⟩⟩)
  | false =>
    rcases rt_split at' xs with h1 | ⟨v, nx, h1⟩
    · exact (cTxt_no br a c xs at' w h hx hb hm hc hcm h1).mono (fun e w' h => ⟨⟨#[]⟩, at', true, h.1, h.2.1, h.2.2, .inr ⟨rfl, rfl, .inr h1⟩⟩)
    · exact (cTxt_ok br a c xs at' v nx w h hx hb hm hc hcm h1).mono (fun e w' h => ⟨v, nx, false, h.1, h.2.1, h.2.2, .inl ⟨rfl, h1, rfl⟩⟩)
theorem StepN.ok {xs : List Int} {at' v at2 : Int} {bad : Bool} (h : StepN xs at' bad v at2 false) : bad = false ∧ rdAny at' xs = (v, at2, 0) := by
  rcases h with h | h
  · exact ⟨h.1, h.2.1⟩
  · cases h.1
theorem StepT.ok {xs : List Int} {at' at2 : Int} {v : ByteArray} {bad : Bool} (h : StepT xs at' bad v at2 false) : bad = false ∧ rtAny at' xs = (v, at2, 0) := by
  rcases h with h | h
  · exact ⟨h.1, h.2.1⟩
  · cases h.1
theorem StepN.no {xs : List Int} {at' v at2 : Int} {bad : Bool} (h : StepN xs at' bad v at2 true) : v = 0 ∧ (bad = true ∨ (rdAny at' xs).2.2 ≠ 0) := by
  rcases h with h | h
  · cases h.2.2
  · exact h.2
theorem StepT.no {xs : List Int} {at' at2 : Int} {v : ByteArray} {bad : Bool} (h : StepT xs at' bad v at2 true) : v = ⟨#[]⟩ ∧ (bad = true ∨ (rtAny at' xs).2.2 ≠ 0) := by
  rcases h with h | h
  · cases h.2.2
  · exact h.2
/-- The head by the cursor. -/
theorem head_steps {xs : List Int} {st a1 k a2 a3 n a4 : Int} {p : ByteArray} {b1 b2 b3 b4 : Bool} (h1 : StepN xs 0 false st a1 b1) (h2 : StepT xs a1 b1 p a2 b2) (h3 : StepN xs a2 b2 k a3 b3) (h4 : StepN xs a3 b3 n a4 b4) :
    (b4 = false → rdHead xs = some ⟨st, p, k, n, a4⟩) ∧ (b4 = true → rdHead xs = none ∧ n = 0) := by
  constructor
  · rintro rfl
    obtain ⟨rfl, e4⟩ := h4.ok
    obtain ⟨rfl, e3⟩ := h3.ok
    obtain ⟨rfl, e2⟩ := h2.ok
    obtain ⟨_, e1⟩ := h1.ok
    exact rdHead_5 e1 e2 e3 e4
  · rintro rfl
    obtain ⟨hn, h4'⟩ := h4.no
    refine ⟨?_, hn⟩
    cases b1 with
    | true =>
      rcases (h1.no).2 with h | h
      · cases h
      · exact rdHead_1 h
    | false =>
      obtain ⟨_, e1⟩ := h1.ok
      cases b2 with
      | true =>
        rcases (h2.no).2 with h | h
        · cases h
        · exact rdHead_2 e1 h
      | false =>
        obtain ⟨_, e2⟩ := h2.ok
        cases b3 with
        | true =>
          rcases (h3.no).2 with h | h
          · cases h
          · exact rdHead_3 e1 e2 h
        | false =>
          obtain ⟨_, e3⟩ := h3.ok
          rcases h4' with h | h
          · cases h
          · exact rdHead_4 e1 e2 e3 h
theorem one_steps {xs : List Int} {aq a5 a6 v a7 : Int} {p d : ByteArray} {b5 b6 b7 : Bool} (h1 : StepT xs aq false p a5 b5) (h2 : StepT xs a5 b5 d a6 b6) (h3 : StepN xs a6 b6 v a7 b7) :
    (b7 = false → rdOne xs aq = some (⟨p, d, v⟩, a7)) ∧ (b7 = true → rdOne xs aq = none) := by
  constructor
  · rintro rfl
    obtain ⟨rfl, e3⟩ := h3.ok
    obtain ⟨rfl, e2⟩ := h2.ok
    obtain ⟨_, e1⟩ := h1.ok
    exact rdOne_4 e1 e2 e3
  · rintro rfl
    cases b5 with
    | true =>
      rcases (h1.no).2 with h | h
      · cases h
      · exact rdOne_1 h
    | false =>
      obtain ⟨_, e1⟩ := h1.ok
      cases b6 with
      | true =>
        rcases (h2.no).2 with h | h
        · cases h
        · exact rdOne_2 e1 h
      | false =>
        obtain ⟨_, e2⟩ := h2.ok
        rcases (h3.no).2 with h | h
        · cases h
        · exact rdOne_3 e1 e2 h
end Go.Proofs.YtponpkfdkdnaeaaDoor
namespace Go.Proofs.YtponpkfdkdnaeaaDoor
open Go.RowKit Classical
set_option linter.unusedVariables false
set_option linter.unusedSimpArgs false

theorem Bys.low {w w' : World} {a : Option Addr} {zs : List Int} (h : Bys w a zs) (hb : Below w.heap.size w w') : Bys w' a zs := h.below hb
/-- What stands while the document reads. -/
structure CF (w0 w : World) (a : Option Addr) (N c : Nat) (at' : Int) (bad : Bool) (S : Array Value) (la : Option Addr) (q lc : Nat) (l : List SeenT) : Prop where
  cu : CuAt w (w0.heap.size + 1) a N c at' bad
  rs : w.heap[w0.heap.size]? = some (.cells shZ 25 (0, 0))
  sb : w.heap[w0.heap.size + 1 + 1]? = some (.cells S 25 (0, 0))
  row : w.ownsRow w0.heap.size 47 3 (.slice la q lc) q (seCs l)
  low : Below w0.heap.size w0 w
theorem CF.cur {w0 w w' : World} {a : Option Addr} {N c : Nat} {at' at2 : Int} {bad bad2 : Bool} {S : Array Value} {la : Option Addr} {q lc : Nat} {l : List SeenT} (h : CF w0 w a N c at' bad S la q lc l) (h1 : CuAt w' (w0.heap.size + 1) a N c at2 bad2) (hc : Chg w w' (fun j => j = w0.heap.size + 1)) : CF w0 w' a N c at2 bad2 S la q lc l :=
  ⟨h1, other_chg hc h.rs (by omega), other_chg hc h.sb (by omega), owns_same h.row (fun j hj => hc.block j (h.row.lt j hj).2 (fun e => by
    obtain ⟨cur, hk⟩ := owns_kind h.row hj
    rw [e, h.cu] at hk
    cases hk)), h.low.trans (hc.below h.low.size (fun j _ e => by omega))⟩
theorem CF.set {w0 w : World} {a : Option Addr} {N c : Nat} {at' : Int} {bad : Bool} {S S' : Array Value} {la : Option Addr} {q lc : Nat} {l : List SeenT} (h : CF w0 w a N c at' bad S la q lc l) (i : Nat) (v : Value) (he : S.setIfInBounds i v = S') : CF w0 (w.setCell ⟨w0.heap.size + 1 + 1, i, none⟩ v) a N c at' bad S' la q lc l :=
  ⟨other_blk h.cu (by omega), other_blk h.rs (by omega), same_blk h.sb he, owns_same h.row (fun j hj => Below.heap_setCell _ _ _ j (fun e => by
    obtain ⟨cur, hk⟩ := owns_kind h.row hj
    rw [show j = w0.heap.size + 1 + 1 from e, h.sb] at hk
    cases hk)), h.low.setCell (show w0.heap.size ≤ w0.heap.size + 1 + 1 by omega) _⟩
theorem CF.other {w0 w : World} {a : Option Addr} {N c : Nat} {at' : Int} {bad : Bool} {S : Array Value} {la : Option Addr} {q lc xb : Nat} {l : List SeenT} {cs : Array Value} (h : CF w0 w a N c at' bad S la q lc l) (hx : w.heap[xb]? = some (.cells cs 47 (0, 0))) (hlo : w0.heap.size + 1 + 1 < xb) (hr : ∀ k, (Value.slice la q lc).ownBlock = some k → k ≠ xb) (i : Nat) (v : Value) : CF w0 (w.setCell ⟨xb, i, none⟩ v) a N c at' bad S la q lc l :=
  ⟨other_blk h.cu (by omega), other_blk h.rs (by omega), other_blk h.sb (by omega), owns_same h.row (fun j hj => Below.heap_setCell _ _ _ j (fun e => hr j hj e)), h.low.setCell (show w0.heap.size ≤ xb by omega) _⟩
theorem CF.alloc {w0 w : World} {a : Option Addr} {N c : Nat} {at' : Int} {bad : Bool} {S : Array Value} {la : Option Addr} {q lc : Nat} {l : List SeenT} (h : CF w0 w a N c at' bad S la q lc l) (o : Obj) : CF w0 (w.alloc o) a N c at' bad S la q lc l := ⟨new_old h.cu _, new_old h.rs _, new_old h.sb _, World.ownsRow.alloc h.row _, h.low.alloc h.low.size _⟩
theorem ss_one {w : World} {g : Nat} {x : SeenT} (h : w.heap[g]? = some (.cells (seC x) 47 (0, 0))) : Ss w (some ⟨g, 0, none⟩) [x] := by
  refine .inr ⟨g, 0, rfl, lt_of_blk h, fun i s hi j v hv => ?_⟩
  cases i with
  | zero =>
    simp only [List.getElem?_cons_zero, Option.some.injEq] at hi
    subst hi
    unfold World.cell?
    simp only [h, Nat.zero_mul, Nat.zero_add]
    rw [← hv]
    simp [SeenT.cells, seC]
  | succ i => simp at hi
theorem CF.app {w0 w8 w9 : World} {a : Option Addr} {N c : Nat} {at' : Int} {bad : Bool} {st : Int} {p : ByteArray} {k : Int} {la la' : Option Addr} {q lc lc' : Nat} {l l' : List SeenT} {o : Obj} (h : CF w0 w8 a N c at' bad (shA st p k la q lc) la q lc l) (hg : (w8.alloc o).grownBy w9 (Value.slice la q lc).ownBlock) (ho : w9.ownsRow w0.heap.size 47 3 (.slice la' (q + 1) lc') (q + 1) (seCs l')) :
    CF w0 (w9.setCell ⟨w0.heap.size + 1 + 1, 3, none⟩ (.slice la' (q + 1) lc')) a N c at' bad (shA st p k la' (q + 1) lc') la' (q + 1) lc' l' := by
  have hb := box_app h.row hg h.sb (by decide)
  refine ⟨other_blk (box_app h.row hg h.cu (by decide)) (by omega), other_blk (box_app h.row hg h.rs (by decide)) (by omega), same_blk hb rfl, owns_same ho (fun j hj => Below.heap_setCell _ _ _ j (fun e => ?_)), ((h.low.alloc h.low.size _).trans ((Below.refl _ _).grown hg (by simp; have := h.low.size; omega) (fun j hj => (h.row.lt j hj).1))).setCell (show w0.heap.size ≤ w0.heap.size + 1 + 1 by omega) _⟩
  obtain ⟨cur, hc⟩ := owns_kind ho hj
  rw [show j = w0.heap.size + 1 + 1 from e, hb] at hc
  cases hc
set_option maxHeartbeats 12800000 in
set_option maxRecDepth 100000 in
theorem refDecode_any (a : Option Addr) (c : Nat) (xs : List Int) (w : World) (hx : Bys w a xs) (hb : Byt xs) (hm : xs.length ≤ 1000000) (hc : xs.length ≤ c) (hcm : c ≤ maxLen) :
    Calls Tryd.prog 5 #[.slice a xs.length c] w fun e w' => DecEnd xs w w' e := by
  by_cases hl : xs.length ≤ 262144
  · have hl' : ¬ (262144 : Int) < (xs.length : Int) := by omega
    have HL : Hid (xs.length ≤ 262144) := hl
    have HNN : Hid (∀ (at' : Int) (bad : Bool) (w' : World), Below w.heap.size w w' → CuAt w' (w.heap.size + 1) a xs.length c at' bad → Calls Tryd.prog 13 #[.pointer (some ⟨w.heap.size + 1, 0, none⟩)] w' fun e w'' => ∃ v at2 bad2, e = .returned (.int .i64 v) ∧ CuAt w'' (w.heap.size + 1) a xs.length c at2 bad2 ∧ Chg w' w'' (fun j => j = w.heap.size + 1) ∧ StepN xs at' bad v at2 bad2) := fun at' bad w' hlow h => cNum_any (w.heap.size + 1) a c xs at' bad w' h (hx.low hlow) hb hm
    have HTT : Hid (∀ (at' : Int) (bad : Bool) (w' : World), Below w.heap.size w w' → CuAt w' (w.heap.size + 1) a xs.length c at' bad → Calls Tryd.prog 14 #[.pointer (some ⟨w.heap.size + 1, 0, none⟩)] w' fun e w'' => ∃ v at2 bad2, e = .returned (.string v) ∧ CuAt w'' (w.heap.size + 1) a xs.length c at2 bad2 ∧ Chg w' w'' (fun j => j = w.heap.size + 1) ∧ StepT xs at' bad v at2 bad2) := fun at' bad w' hlow h => cTxt_any (w.heap.size + 1) a c xs at' bad w' h (hx.low hlow) hb hm hc hcm
    have HB : Hid (Byt xs) := hb
    have HF0 : Hid (CF w (((w.alloc (.cells shZ 25)).alloc (.cells #[.slice a xs.length c, .int .i64 0, .bool false] 43)).alloc (.cells shZ 25)) a xs.length c 0 false shZ none 0 0 []) := ⟨new_old (heap_new' (by simp)) _, new_old (new_old (heap_alloc_new _ _) _) _, heap_new' (by simp), World.ownsRow_nil _ _ _ _, (((Below.refl _ _).alloc (Nat.le_refl _) _).alloc (by simp) _).alloc (by simp; omega) _⟩
    obtain ⟨N, hN⟩ : ∃ N, xs.length = N := ⟨_, rfl⟩
    have HN : Hid (xs.length = N) := hN
    rw [hN] at HF0 HNN HTT hl' ⊢
    clear hx hb hm hc hcm hl hN
    go_enter Tryd.func5, Tryd.ntmps5
    go_wp2_with fail
    refine (HNN.out 0 false _ HF0.out.low HF0.out.cu).mono ?_
    rintro e w1 ⟨st, a1, b1, rfl, hcu1, hc1, hst1⟩
    have HF1 : Hid (CF w w1 a N c a1 b1 shZ none 0 0 []) := HF0.out.cur hcu1 hc1
    have HS1 : Hid (StepN xs 0 false st a1 b1) := hst1
    have HG1 : Hid _ := HF1.out.set 0 (.int .i64 st) rfl
    clear hcu1 hc1 hst1
    obtain ⟨s0, s1, s2, s3⟩ := cells_4 HF1.out.sb
    have f4 := free_4 HF1.out.sb
    go_wp2_with fail
    clear s0 s1 s2 s3 f4
    refine (HTT.out a1 b1 _ HG1.out.low HG1.out.cu).mono ?_
    rintro e w2 ⟨p, a2, b2, rfl, hcu2, hc2, hst2⟩
    have HF2 : Hid (CF w w2 a N c a2 b2 #[.int .i64 st, .string ⟨#[]⟩, .int .i64 0, .slice none 0 0] none 0 0 []) := HG1.out.cur hcu2 hc2
    have HS2 : Hid (StepT xs a1 b1 p a2 b2) := hst2
    have HG2 : Hid _ := HF2.out.set 1 (.string p) rfl
    clear hcu2 hc2 hst2
    obtain ⟨s0, s1, s2, s3⟩ := cells_4 HF2.out.sb
    have f4 := free_4 HF2.out.sb
    go_wp2_with fail
    clear s0 s1 s2 s3 f4
    refine (HNN.out a2 b2 _ HG2.out.low HG2.out.cu).mono ?_
    rintro e w3 ⟨k, a3, b3, rfl, hcu3, hc3, hst3⟩
    have HF3 : Hid (CF w w3 a N c a3 b3 #[.int .i64 st, .string p, .int .i64 0, .slice none 0 0] none 0 0 []) := HG2.out.cur hcu3 hc3
    have HS3 : Hid (StepN xs a2 b2 k a3 b3) := hst3
    have HG3 : Hid _ := HF3.out.set 2 (.int .i64 k) rfl
    clear hcu3 hc3 hst3
    obtain ⟨s0, s1, s2, s3⟩ := cells_4 HF3.out.sb
    have f4 := free_4 HF3.out.sb
    go_wp2_with fail
    clear s0 s1 s2 s3 f4
    refine (HNN.out a3 b3 _ HG3.out.low HG3.out.cu).mono ?_
    rintro e w4 ⟨n, a4, b4, rfl, hcu4, hc4, hst4⟩
    have HF4 : Hid (CF w w4 a N c a4 b4 (shA st p k none 0 0) none 0 0 []) := HG3.out.cur hcu4 hc4
    have hhd := head_steps HS1.out HS2.out HS3.out hst4
    obtain ⟨m, hnm, hmb⟩ : ∃ m : Nat, n = m ∧ m ≤ 2147483647 := by
      cases hb4 : b4 with
      | false => subst hb4; exact rd_nat HB.out (hst4.ok).2
      | true => exact ⟨0, (hhd.2 hb4).2, by omega⟩
    subst hnm
    have HHD : Hid ((b4 = false → rdHead xs = some ⟨st, p, k, (m : Int), a4⟩) ∧ (b4 = true → rdShot xs = none)) := ⟨hhd.1, fun h => rdShot_none (hhd.2 h).1⟩
    clear hcu4 hc4 hst4 hhd
    go_wp2_with fail
    go_loopw [7] (fun vi wr => ∃ (q : Nat) (aq : Int) (bq : Bool) (la : Option Addr) (lc : Nat) (l : List SeenT), vi = .int .i64 q ∧ q ≤ m ∧ q ≤ 65 ∧ Hid (l.length = q) ∧ Hid (CF w wr a N c aq bq (shA st p k la q lc) la q lc l) ∧ Hid ((bq = false → rdHead xs = some ⟨st, p, k, (m : Int), a4⟩ ∧ rdMany xs a4 q = some (l, aq)) ∧ (bq = true → rdShot xs = none))) (fun vi _ => m - (intOf vi).toNat)
    case atStart => exact ⟨0, a4, b4, none, 0, [], rfl, Nat.zero_le _, by omega, rfl, HF4, ⟨fun h => ⟨HHD.out.1 h, rfl⟩, HHD.out.2⟩⟩
    case round =>
      obtain ⟨q, aq, bq, la, lc, l, rfl, hqm, hq65, HLQ, HF, HI⟩ := hrel
      obtain ⟨u0, u1, u2⟩ := cells_3 HF.out.cu
      obtain ⟨s0, s1, s2, s3⟩ := cells_4 HF.out.sb
      by_cases hlt : q < m
      · have hlt' : (q : Int) < (m : Int) := by omega
        by_cases h64 : q ≤ 64
        · have h64' : (q : Int) ≤ 64 := by omega
          cases bq with
          | false =>
            have HIM : Hid (rdHead xs = some ⟨st, p, k, (m : Int), a4⟩ ∧ rdMany xs a4 q = some (l, aq)) := HI.out.1 rfl
            have HX0 : Hid ((wr.alloc (.cells #[.string ⟨#[]⟩, .string ⟨#[]⟩, .int .i64 0] 47)).heap[wr.heap.size]? = some (.cells #[.string ⟨#[]⟩, .string ⟨#[]⟩, .int .i64 0] 47 (0, 0))) := heap_alloc_new _ _
            have HA0 : Hid (CF w (wr.alloc (.cells #[.string ⟨#[]⟩, .string ⟨#[]⟩, .int .i64 0] 47)) a N c aq false (shA st p k la q lc) la q lc l) := HF.out.alloc _
            have hxb : w.heap.size + 1 + 1 < wr.heap.size := lt_of_blk HF.out.sb
            have HRX : Hid (∀ j, (Value.slice la q lc).ownBlock = some j → j ≠ wr.heap.size) := fun j hj e => by have := (HF.out.row.lt j hj).2; omega
            clear HI
            go_wp2_with fail
            clear u0 u1 u2 s0 s1 s2 s3
            refine (HTT.out aq false _ HA0.out.low HA0.out.cu).mono ?_
            rintro e w5 ⟨p1, a5, b5, rfl, hcu5, hc5, hst5⟩
            have HT5 : Hid (StepT xs aq false p1 a5 b5) := hst5
            have HA5 : Hid (CF w w5 a N c a5 b5 (shA st p k la q lc) la q lc l) := HA0.out.cur hcu5 hc5
            have HX5 : Hid (w5.heap[wr.heap.size]? = some (.cells #[.string ⟨#[]⟩, .string ⟨#[]⟩, .int .i64 0] 47 (0, 0))) := other_chg hc5 HX0.out (by omega)
            have HB5 : Hid (CF w (w5.setCell ⟨wr.heap.size, 0, none⟩ (.string p1)) a N c a5 b5 (shA st p k la q lc) la q lc l) := HA5.out.other HX5.out hxb HRX.out 0 (.string p1)
            have HY5 : Hid ((w5.setCell ⟨wr.heap.size, 0, none⟩ (.string p1)).heap[wr.heap.size]? = some (.cells #[.string p1, .string ⟨#[]⟩, .int .i64 0] 47 (0, 0))) := same_blk HX5.out rfl
            clear hcu5 hc5 hst5
            obtain ⟨x0, x1, x2⟩ := cells_3 HX5.out
            have f3 := free_3 HX5.out
            go_wp2_with fail
            clear x0 x1 x2 f3
            refine (HTT.out a5 b5 _ HB5.out.low HB5.out.cu).mono ?_
            rintro e w6 ⟨d1, a6, b6, rfl, hcu6, hc6, hst6⟩
            have HT6 : Hid (StepT xs a5 b5 d1 a6 b6) := hst6
            have HA6 : Hid (CF w w6 a N c a6 b6 (shA st p k la q lc) la q lc l) := HB5.out.cur hcu6 hc6
            have HX6 : Hid (w6.heap[wr.heap.size]? = some (.cells #[.string p1, .string ⟨#[]⟩, .int .i64 0] 47 (0, 0))) := other_chg hc6 HY5.out (by omega)
            have HB6 : Hid (CF w (w6.setCell ⟨wr.heap.size, 1, none⟩ (.string d1)) a N c a6 b6 (shA st p k la q lc) la q lc l) := HA6.out.other HX6.out hxb HRX.out 1 (.string d1)
            have HY6 : Hid ((w6.setCell ⟨wr.heap.size, 1, none⟩ (.string d1)).heap[wr.heap.size]? = some (.cells #[.string p1, .string d1, .int .i64 0] 47 (0, 0))) := same_blk HX6.out rfl
            clear hcu6 hc6 hst6
            obtain ⟨x0, x1, x2⟩ := cells_3 HX6.out
            have f3 := free_3 HX6.out
            go_wp2_with fail
            clear x0 x1 x2 f3
            refine (HNN.out a6 b6 _ HB6.out.low HB6.out.cu).mono ?_
            rintro e w7 ⟨v1, a7, b7, rfl, hcu7, hc7, hst7⟩
            have hone := one_steps HT5.out HT6.out hst7
            have HA7 : Hid (CF w w7 a N c a7 b7 (shA st p k la q lc) la q lc l) := HB6.out.cur hcu7 hc7
            have HX7 : Hid (w7.heap[wr.heap.size]? = some (.cells #[.string p1, .string d1, .int .i64 0] 47 (0, 0))) := other_chg hc7 HY6.out (by omega)
            have HB7 : Hid (CF w (w7.setCell ⟨wr.heap.size, 2, none⟩ (.int .i64 v1)) a N c a7 b7 (shA st p k la q lc) la q lc l) := HA7.out.other HX7.out hxb HRX.out 2 (.int .i64 v1)
            have HY7 : Hid ((w7.setCell ⟨wr.heap.size, 2, none⟩ (.int .i64 v1)).heap[wr.heap.size]? = some (.cells #[.string p1, .string d1, .int .i64 v1] 47 (0, 0))) := same_blk HX7.out rfl
            have HIN : Hid ((b7 = false → rdHead xs = some ⟨st, p, k, (m : Int), a4⟩ ∧ rdMany xs a4 (q + 1) = some (l ++ [(⟨p1, d1, v1⟩ : SeenT)], a7)) ∧ (b7 = true → rdShot xs = none)) := ⟨fun h => ⟨HIM.out.1, rdMany_step HIM.out.2 (hone.1 h)⟩, fun h => rdShot_bad HIM.out.1 (rdMany_none (rdMany_no HIM.out.2 (hone.2 h)) (by omega))⟩
            clear hcu7 hc7 hst7 hone
            obtain ⟨x0, x1, x2⟩ := cells_3 HX7.out
            have f3 := free_3 HX7.out
            obtain ⟨s0, s1, s2, s3⟩ := cells_4 HA7.out.sb
            have hne7 : w.heap.size + 1 + 1 ≠ wr.heap.size := by omega
            have hsz7 := HA7.out.low.size
            go_wp2_with (first
              | (at_builtin; refine wpList_app rfl _ _ rfl w.heap.size (.slice la q lc) q (seCs l) rfl (World.ownsRow.alloc HB7.out.row _) (some ⟨w7.heap.size, 0, none⟩) 1 1 [⟨p1, d1, v1⟩] rfl rfl (ss_one (heap_new' (by simp))) (fun h => by cases h) (by simp; omega) (by simp; omega) ?_
                 intro v9 w9 ho9 hg9
                 obtain ⟨la', lc', rfl, hn9⟩ := owns_form ho9
                 have HAP : Hid (CF w (w9.setCell ⟨w.heap.size + 1 + 1, 3, none⟩ (.slice la' (q + 1) lc')) a N c a7 b7 (shA st p k la' (q + 1) lc') la' (q + 1) lc' (l ++ [(⟨p1, d1, v1⟩ : SeenT)])) := HB7.out.app hg9 (by rw [seCs_append]; exact ho9)
                 have HB9 : Hid (w9.heap[w.heap.size + 1 + 1]? = some (.cells (shA st p k la q lc) 25 (0, 0))) := box_app HB7.out.row hg9 HB7.out.sb (by decide)
                 clear s0 s1 s2 s3 x0 x1 x2 f3 ho9 hg9 hn9
                 obtain ⟨s0, s1, s2, s3⟩ := cells_4 HB9.out
                 have f4 := free_4 HB9.out)
              | fail)
            go_roundw
            case rel => exact ⟨q + 1, a7, b7, la', lc', l ++ [(⟨p1, d1, v1⟩ : SeenT)], by go_num, by omega, by omega, by show _ = _; rw [List.length_append, HLQ.out]; rfl, HAP, HIN⟩
            case measure => first | (simp [intOf]; done) | (simp [intOf]; omega)
          | true =>
            have HNO : Hid (rdShot xs = none) := HI.out.2 rfl
            have HDR : Hid (DecRes xs 51 0 ⟨#[]⟩ 0 []) := DecRes.of_bad HL.out (fun R h => by rw [HNO.out] at h; cases h)
            obtain ⟨r0, r1, r2, r3⟩ := cells_4 HF.out.rs
            have g4 := free_4 HF.out.rs
            go_wp2_with fail
            exact bodyPost_ret (results_cell_tmp rfl _ _ w.heap.size 25 _ (0, 0) _ (.int .i64 51) rfl rfl (fill_4 HF.out.rs) Tryd.underlying25 rfl (by kernel_rfl)) rfl ⟨0, ⟨#[]⟩, 0, none, 0, [], 51, rfl, .inl rfl, HDR.out, fillB_4 HF.out.low (Nat.le_refl _)⟩
        · have h64' : ¬ (q : Int) ≤ 64 := by omega
          have hqne : ((q : Int) != (m : Int)) = true := by simp; omega
          cases bq with
          | false =>
            have HIM : Hid (rdHead xs = some ⟨st, p, k, (m : Int), a4⟩ ∧ rdMany xs a4 q = some (l, aq)) := HI.out.1 rfl
            have HNO : Hid (rdShot xs = none) := rdShot_many HIM.out.1 (by omega)
            by_cases hat : aq = N
            · subst hat
              have HDR : Hid (DecRes xs 51 0 ⟨#[]⟩ 0 []) := DecRes.of_bad HL.out (fun R h => by rw [HNO.out] at h; cases h)
              obtain ⟨r0, r1, r2, r3⟩ := cells_4 HF.out.rs
              have g4 := free_4 HF.out.rs
              go_wp2_with fail
              exact bodyPost_ret (results_cell_tmp rfl _ _ w.heap.size 25 _ (0, 0) _ (.int .i64 51) rfl rfl (fill_4 HF.out.rs) Tryd.underlying25 rfl (by kernel_rfl)) rfl ⟨0, ⟨#[]⟩, 0, none, 0, [], 51, rfl, .inl rfl, HDR.out, fillB_4 HF.out.low (Nat.le_refl _)⟩
            · have hatb : (aq != (N : Int)) = true := by simpa using hat
              clear hat
              have HDR : Hid (DecRes xs 51 0 ⟨#[]⟩ 0 []) := DecRes.of_bad HL.out (fun R h => by rw [HNO.out] at h; cases h)
              obtain ⟨r0, r1, r2, r3⟩ := cells_4 HF.out.rs
              have g4 := free_4 HF.out.rs
              go_wp2_with fail
              exact bodyPost_ret (results_cell_tmp rfl _ _ w.heap.size 25 _ (0, 0) _ (.int .i64 51) rfl rfl (fill_4 HF.out.rs) Tryd.underlying25 rfl (by kernel_rfl)) rfl ⟨0, ⟨#[]⟩, 0, none, 0, [], 51, rfl, .inl rfl, HDR.out, fillB_4 HF.out.low (Nat.le_refl _)⟩
          | true =>
            have HNO : Hid (rdShot xs = none) := HI.out.2 rfl
            have HDR : Hid (DecRes xs 51 0 ⟨#[]⟩ 0 []) := DecRes.of_bad HL.out (fun R h => by rw [HNO.out] at h; cases h)
            obtain ⟨r0, r1, r2, r3⟩ := cells_4 HF.out.rs
            have g4 := free_4 HF.out.rs
            go_wp2_with fail
            exact bodyPost_ret (results_cell_tmp rfl _ _ w.heap.size 25 _ (0, 0) _ (.int .i64 51) rfl rfl (fill_4 HF.out.rs) Tryd.underlying25 rfl (by kernel_rfl)) rfl ⟨0, ⟨#[]⟩, 0, none, 0, [], 51, rfl, .inl rfl, HDR.out, fillB_4 HF.out.low (Nat.le_refl _)⟩
      · obtain rfl : q = m := by omega
        have hge : ¬ (q : Int) < (q : Int) := by omega
        cases bq with
        | true =>
          have HNO : Hid (rdShot xs = none) := HI.out.2 rfl
          have HDR : Hid (DecRes xs 51 0 ⟨#[]⟩ 0 []) := DecRes.of_bad HL.out (fun R h => by rw [HNO.out] at h; cases h)
          obtain ⟨r0, r1, r2, r3⟩ := cells_4 HF.out.rs
          have g4 := free_4 HF.out.rs
          go_wp2_with fail
          exact bodyPost_ret (results_cell_tmp rfl _ _ w.heap.size 25 _ (0, 0) _ (.int .i64 51) rfl rfl (fill_4 HF.out.rs) Tryd.underlying25 rfl (by kernel_rfl)) rfl ⟨0, ⟨#[]⟩, 0, none, 0, [], 51, rfl, .inl rfl, HDR.out, fillB_4 HF.out.low (Nat.le_refl _)⟩
        | false =>
          have HIM : Hid (rdHead xs = some ⟨st, p, k, (q : Int), a4⟩ ∧ rdMany xs a4 q = some (l, aq)) := HI.out.1 rfl
          have HRS : Hid (∀ R, rdShot xs = some R → R = ⟨st, p, k, l, aq⟩) := fun R h => by
            by_cases h64 : q ≤ 64
            · rw [rdShot_ok HIM.out.1 h64 HIM.out.2] at h; cases h; rfl
            · rw [rdShot_many HIM.out.1 (by omega)] at h; cases h
          by_cases hat : aq = N
          · subst hat
            have HSZ : Hid (∀ s ∈ l, s.p.size ≤ maxLen) := fun s hs => by have := rdMany_size HIM.out.2 s hs; have := HL.out; unfold maxLen; omega
            have HCK : Hid (Calls Tryd.prog 15 #[.agg (shA st p k la q lc)] wr fun e w' => e = .returned (.int .i64 (chk st p k l)) ∧ Below wr.heap.size wr w') := by
              have := refCheck_any st p k la lc l wr (ss_of_row HF.out.row) HSZ.out (by rw [HLQ.out]; unfold maxLen; omega)
              rw [chk_eq]
              rw [HLQ.out] at this
              exact this
            by_cases hgd : Good st p k l
            · have hq64 : q ≤ 64 := by have := hgd.2.2.1; rw [HLQ.out] at this; exact this
              have HDR : Hid (DecRes xs 0 st p k l) := ⟨fun h => absurd HL.out (by omega), fun R _ hR' _ _ => by rw [HRS.out R hR']; exact ⟨rfl, rfl, rfl, rfl, rfl⟩, fun _ h => absurd hgd (h _ (rdShot_ok HIM.out.1 hq64 HIM.out.2) (by show (N : Int) = xs.length; rw [HN.out]))⟩
              rw [chk_good hgd] at HCK
              clear hgd
              go_wp2_with fail
              clear u0 u1 u2 s0 s1 s2 s3
              refine Calls.mono HCK.out ?_
              rintro e w5 ⟨rfl, hb5⟩
              have HP5 : Hid (w5.heap[w.heap.size]? = some (.cells shZ 25 (0, 0))) := kept_block hb5 HF.out.rs
              have HQ5 : Hid (w5.heap[w.heap.size + 1 + 1]? = some (.cells (shA st p k la q lc) 25 (0, 0))) := kept_block hb5 HF.out.sb
              have HB5 : Hid (Below w.heap.size w w5) := trans2 HF.out.low hb5
              have HR5 : Hid (w5.ownsRow w.heap.size 47 3 (.slice la q lc) q (seCs l)) := owns_below HF.out.row hb5
              clear hb5
              obtain ⟨r0, r1, r2, r3⟩ := cells_4 HP5.out
              have g4 := free_4 HP5.out
              obtain ⟨s0, s1, s2, s3⟩ := cells_4 HQ5.out
              go_wp2_with fail
              have hrow' := owns_same HR5.out (fun j hj => (put4_chg w5 w.heap.size (.int .i64 st) (.string p) (.int .i64 k) (.slice la q lc)).block j (HR5.out.lt j hj).2 (fun e => by
                obtain ⟨cur, hcu⟩ := owns_kind HR5.out hj
                rw [e, HP5.out] at hcu
                cases hcu))
              exact bodyPost_ret (results_cell_tmp rfl _ _ w.heap.size 25 _ (0, 0) _ (.int .i64 0) rfl rfl (fill_4 HP5.out) Tryd.underlying25 rfl (by kernel_rfl)) rfl ⟨st, p, k, la, lc, l, 0, by rw [HLQ.out], ss_of_row hrow', HDR.out, fillB_4 HB5.out (Nat.le_refl _)⟩
            · have HDR : Hid (DecRes xs 51 0 ⟨#[]⟩ 0 []) := DecRes.of_bad HL.out (fun R h _ => by rw [HRS.out R h]; exact hgd)
              rw [chk_bad hgd] at HCK
              clear hgd
              go_wp2_with fail
              clear u0 u1 u2 s0 s1 s2 s3
              refine Calls.mono HCK.out ?_
              rintro e w5 ⟨rfl, hb5⟩
              have HP5 : Hid (w5.heap[w.heap.size]? = some (.cells shZ 25 (0, 0))) := kept_block hb5 HF.out.rs
              have HB5 : Hid (Below w.heap.size w w5) := trans2 HF.out.low hb5
              clear hb5
              obtain ⟨r0, r1, r2, r3⟩ := cells_4 HP5.out
              have g4 := free_4 HP5.out
              go_wp2_with fail
              exact bodyPost_ret (results_cell_tmp rfl _ _ w.heap.size 25 _ (0, 0) _ (.int .i64 51) rfl rfl (fill_4 HP5.out) Tryd.underlying25 rfl (by kernel_rfl)) rfl ⟨0, ⟨#[]⟩, 0, none, 0, [], 51, rfl, .inl rfl, HDR.out, fillB_4 HB5.out (Nat.le_refl _)⟩
          · have hatb : (aq != (N : Int)) = true := by simpa using hat
            have HAT : Hid (¬ aq = N) := hat
            clear hat
            have HDR : Hid (DecRes xs 51 0 ⟨#[]⟩ 0 []) := DecRes.of_bad HL.out (fun R h ha => by rw [HRS.out R h] at ha; exact absurd (ha.trans (by rw [HN.out])) HAT.out)
            obtain ⟨r0, r1, r2, r3⟩ := cells_4 HF.out.rs
            have g4 := free_4 HF.out.rs
            go_wp2_with fail
            exact bodyPost_ret (results_cell_tmp rfl _ _ w.heap.size 25 _ (0, 0) _ (.int .i64 51) rfl rfl (fill_4 HF.out.rs) Tryd.underlying25 rfl (by kernel_rfl)) rfl ⟨0, ⟨#[]⟩, 0, none, 0, [], 51, rfl, .inl rfl, HDR.out, fillB_4 HF.out.low (Nat.le_refl _)⟩
  · have hl2 : (262144 : Int) < (xs.length : Int) := by omega
    have HR : Hid (DecRes xs 2 0 ⟨#[]⟩ 0 []) := ⟨fun _ => ⟨rfl, rfl, rfl, rfl, rfl⟩, fun R h => absurd h hl, fun h => absurd h hl⟩
    obtain ⟨N, hN⟩ : ∃ N, xs.length = N := ⟨_, rfl⟩
    rw [hN] at hl2 ⊢
    clear hx hb hm hc hcm hl hN
    go_enter Tryd.func5, Tryd.ntmps5
    go_wp2_with fail
    exact bodyPost_ret (results_cell_tmp rfl _ _ w.heap.size 25 _ (0, 0) _ (.int .i64 2) rfl rfl (heap_alloc_new _ _) Tryd.underlying25 rfl (by kernel_rfl)) rfl ⟨0, ⟨#[]⟩, 0, none, 0, [], 2, rfl, .inl rfl, HR.out, (Below.refl _ _).alloc (Nat.le_refl _) _⟩
end Go.Proofs.YtponpkfdkdnaeaaDoor
