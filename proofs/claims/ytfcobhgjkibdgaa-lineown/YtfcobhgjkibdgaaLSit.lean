/-
  heraldlaw16: a line, the document's and the desk between two steps.
-/
import Derived.Test.YtfcobhgjkibdgaaLLawA
namespace Go.Proofs.Ytfcobhgjkibdgaa
open Go.RowKit
set_option linter.unusedVariables false
set_option linter.unusedSimpArgs false

/-- A step of a script. -/
structure StL where
  kind : Int
  on : Int
  ms : List MsT
  n : Int
  a : Int
  t : Int
abbrev StL.val (s : StL) (mv : Value) : Value := .agg #[.int .i64 s.kind, .int .i64 s.on, mv, .int .i64 s.n, .int .i64 s.a, .int .i64 s.t]
def LnT.step (L : LnT) (s : StL) : LnT := if s.kind = 1 then (L.send (shL s.ms)).1 else if s.kind = 2 then (L.tak s.n).1 else if s.kind = 3 then (L.dbl s.n).1 else if s.kind = 4 then (L.spl s.n s.a s.t).1 else L
theorem step_gv (L : LnT) (s : StL) : (L.step s).gv ≤ L.gv + 300 := by
  unfold LnT.step
  have h1 := send_gv (shL s.ms) L
  have h2 := shL_len s.ms
  have h3 := dbl_gv L s.n
  have h4 := tak_gv L s.n
  have h5 := spl_gv L s.n s.a s.t
  split
  · omega
  · split
    · omega
    · split
      · omega
      · split <;> omega
theorem LnT.Ok.step {L : LnT} (h : L.Ok) (s : StL) : (L.step s).Ok := by
  unfold LnT.step
  split
  · exact h.send (shL_small s.ms)
  · split
    · exact h.tak _
    · split
      · exact h.dbl _
      · split
        · exact h.spl _ _ _
        · exact h
/-- All blocks but one are as they were. -/
def But (G : Nat) (w w' : World) : Prop := w'.heap.size = w.heap.size ∧ ∀ j, j ≠ G → w'.heap[j]? = w.heap[j]?
theorem But.refl (G : Nat) (w : World) : But G w w := ⟨rfl, fun _ _ => rfl⟩
theorem But.drew {G : Nat} {w w' : World} (h : But G w w') : But G w w'.drew := h
theorem But.set {G i : Nat} {w w' : World} {v : Value} (h : But G w w') : But G w (w'.setCell ⟨G, i, none⟩ v) := ⟨by rw [← h.1]; simp, fun j hj => (Below.heap_setCell w' ⟨G, i, none⟩ v j hj).trans (h.2 j hj)⟩
theorem But.blk {G j : Nat} {w w' : World} {o : Obj} (h : But G w w') (hb : w.heap[j]? = some o) (hj : j ≠ G) : w'.heap[j]? = some o := (h.2 j hj).trans hb
/-- A line, the document's and the desk. -/
structure Sit (At : World → (Nat → Prop) → LnT → Value → Prop) (w : World) (K : Nat → Prop) (L : LnT) (p v : Value) (D : Nat) (rv : Value) : Prop where
  at' : At w K L p
  ok : L.Ok
  ref : FlAt w v L.fl
  desk : w.heap[D]? = some (.cells #[rv] 59 (0, 0))
  row : ∃ n xs, w.ownsRow 0 23 3 rv n xs
  nkD : ¬ K D
  nkR : ∀ j, rv.ownBlock = some j → ¬ K j
theorem Sit.below {At : World → (Nat → Prop) → LnT → Value → Prop} (sv : Lines At) {w w' : World} {K : Nat → Prop} {L : LnT} {p v : Value} {D : Nat} {rv : Value} (h : Sit At w K L p v D rv) (hb : Below w.heap.size w w') : Sit At w' K L p v D rv :=
  ⟨sv.keep h.at' (Kp.of_below hb _), h.ok, owns_below h.ref hb, kept_block hb h.desk, by obtain ⟨n, xs, hr⟩ := h.row; exact ⟨n, xs, owns_below hr hb⟩, h.nkD, h.nkR⟩
/-- What one step leaves. -/
structure PlE (At : World → (Nat → Prop) → LnT → Value → Prop) (w : World) (K : Nat → Prop) (p : Value) (D : Nat) (rv : Value) (L : LnT) (w' : World) (K' : Nat → Prop) (v' rv' : Value) : Prop where
  sit : Sit At w' K' L p v' D rv'
  chg : Chg w w' (fun j => K j ∨ j = D ∨ rv.ownBlock = some j)
  new : ∀ j, K' j → K j ∨ w.heap.size ≤ j
  newR : ∀ j, rv'.ownBlock = some j → rv.ownBlock = some j ∨ w.heap.size ≤ j
/-- A call of the line, beside all else. -/
theorem Sit.call {At : World → (Nat → Prop) → LnT → Value → Prop} (sv : Lines At) {w w' : World} {K K' : Nat → Prop} {L L' : LnT} {p v : Value} {D : Nat} {rv : Value} (h : Sit At w K L p v D rv) (he : LnE At w K L' p w' K') (v' : Value) (hv : FlAt w v' L'.fl) (ho : L'.Ok) : Sit At w' K' L' p v' D rv := by
  have nK : ∀ j, j < w.heap.size → ¬ K j → ¬ K' j := fun j hj hn hk => (he.new j hk).elim hn (fun h => by omega)
  have hD := lt_of_blk h.desk
  obtain ⟨n, xs, hr⟩ := h.row
  refine ⟨he.at', ho, row_chg hv he.chg (fun j hj hk => ?_), ?_, ⟨n, xs, row_chg hr he.chg (fun j hj hk => h.nkR j hj hk)⟩, nK D hD h.nkD, fun j hj => nK j (row_block hr j hj).2 (h.nkR j hj)⟩
  · obtain ⟨cur, hc⟩ := row_kind hv j hj
    exact sv.sort h.at' j cur hk hc
  · rw [he.chg.block D hD h.nkD]
    exact h.desk
/-- The result's box is filled: nothing of it is there. -/
theorem Sit.box {At : World → (Nat → Prop) → LnT → Value → Prop} (sv : Lines At) {w w' : World} {K : Nat → Prop} {L : LnT} {p v : Value} {D : Nat} {rv : Value} {G : Nat} (h : Sit At w K L p v D rv) (hb : But G w w') (hc : Chg w w' (fun j => j = G)) (hG : ∀ c, w.heap[G]? ≠ some (.cells c 59 (0, 0)) ∧ w.heap[G]? ≠ some (.cells c 23 (0, 0)) ∧ w.heap[G]? ≠ some (.cells c 97 (0, 0))) (hK : ¬ K G) : Sit At w' K L p v D rv := by
  obtain ⟨n, xs, hr⟩ := h.row
  refine ⟨sv.keep h.at' ⟨Nat.le_of_eq hb.1.symm, fun b _ hk => hb.2 b (fun e => hK (by rw [← e]; exact hk))⟩, h.ok, row_chg h.ref hc (fun j hj e => ?_), hb.blk h.desk (fun e => (hG _).1 (by rw [← e]; exact h.desk)), ⟨n, xs, row_chg hr hc (fun j hj e => ?_)⟩, h.nkD, h.nkR⟩
  · have e : j = G := e
    subst e
    obtain ⟨cur, hc⟩ := row_kind h.ref j hj
    exact (hG cur).2.2 hc
  · have e : j = G := e
    subst e
    obtain ⟨cur, hc⟩ := row_kind hr j hj
    exact (hG cur).2.1 hc
/-- One step of one call each. -/
theorem ple_of {At : World → (Nat → Prop) → LnT → Value → Prop} (sv : Lines At) {w w3 w4 w5 : World} {K K' : Nat → Prop} {L L' : LnT} {p v v' : Value} {D G : Nat} {rv : Value} (h : Sit At w K L p v D rv) (hb : Below w.heap.size w w3) (he : LnE At w3 K L' p w4 K') (hv : FlAt w3 v' L'.fl) (ho : L'.Ok) (hG : w.heap.size ≤ G ∧ G < w3.heap.size) (hbx : ∃ c, w4.heap[G]? = some (.cells c 56 (0, 0))) (h5 : But G w4 w5) (hc5 : Chg w4 w5 (fun j => j = G)) : PlE At w K p D rv L' w5 K' v' rv := by
  obtain ⟨cB, hcB⟩ := hbx
  have hK : ¬ K' G := fun hk => (he.new G hk).elim (fun hk => by have := sv.lt h.at' G hk; omega) (fun hh => by omega)
  refine ⟨((h.below sv hb).call sv he v' hv ho).box sv h5 hc5 (fun c => ⟨?_, ?_, ?_⟩) hK, ?_, fun j hj => (he.new j hj).elim .inl (fun hh => .inr (Nat.le_trans hb.size hh)), fun j hj => .inl hj⟩
  · rw [hcB]; simp
  · rw [hcB]; simp
  · rw [hcB]; simp
  · have h1 : Chg w w4 K := (Chg.of_below hb K).trans he.chg
    refine ⟨hc5.os.trans h1.os, hc5.tape.trans h1.tape, hc5.output.trans h1.output, Nat.le_trans h1.size hc5.size, fun j hj hn => (hc5.block j (Nat.lt_of_lt_of_le hj h1.size) (fun e => by have e : j = G := e; omega)).trans (h1.block j hj (fun hk => hn (.inl hk)))⟩
end Go.Proofs.Ytfcobhgjkibdgaa
