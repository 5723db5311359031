import Derived.RangeFuncNested
import Derived.RangeFuncLeaves
import Derived.Deep.RegionHeld3
import Derived.OrdersIn
import Derived.Test.YtbblckcjedjbcaaGreatDoorXAll
import Derived.RangeFuncBound
import Derived.Shelf.Abstract
import Derived.Shelf.RegionOpen
import Derived.OwnWalkIn
import Derived.TacticsInMore
import Derived.LoopNIn
import Derived.LoopIn
import Derived.Sort.LoopGhostIn
namespace Go.Proofs.YtbblckcjedjbcaaGreatDoor
open Go.RowKit
set_option linter.unusedVariables false

variable {F : Fence} {n : Nat} {P : Program}

/-- How the body of a round may be left: the book-keeping blocks at or beyond B lie as they lay; on: some later state; left: by the jump c. -/
def stPost {σ α : Type} (B : Nat) (I : σ → World → Prop) (N : σ → α → σ → Prop) (X : Code → World → Prop) (s : σ) (x : α) (W : World) : Exit → Act → World → Prop
  | .normal, _, W' => KeepsFrom B W W' ∧ ∃ s', N s x s' ∧ I s' W'
  | .ret, _, W' => KeepsFrom B W W' ∧ X .ret W'
  | .exit id, _, W' => KeepsFrom B W W' ∧ X (.exit id) W'
  | .goto t, _, W' => KeepsFrom B W W' ∧ X (.goto t) W'
  | .panic _, _, _ => False
  | .outgrown, _, _ => False

/-- What an iterator with state of its own promises: I: between two rounds; Y: as yield is called; X: a round has left; E: it has ended by itself. Z, Zx: whatever hangs on blocks alone that are no cells. -/
def SeqSt {σ α : Type} (F : Fence) (n : Nat) (P : Program) (gf : Nat) (lb : Array Value) (encs : α → Array Value) (B : Nat) (I : σ → World → Prop) (Y : σ → α → World → Prop) (N : σ → α → σ → Prop) (X : Code → World → Prop) (E : World → Prop) (s0 : σ) : Prop :=
  ∀ (l : Nat) (Z : World → Prop) (Zx : Code → World → Prop) (W1 : World), (∀ A C, KeepsFrom B A C → Z A → Z C) → (∀ c A C, KeepsFrom B A C → Zx c A → Zx c C) →
    (∀ s x W, Y s x W → Z W → YieldAt F (n - 1) P l (encs x) W fun e W' => (e = .returned (.bool true) ∧ (∃ s', N s x s' ∧ I s' W') ∧ Z W') ∨ (e = .returned (.bool false) ∧ ∃ c, X c W' ∧ Zx c W')) →
    I s0 W1 → Z W1 →
    CallsIn F n P gf (#[.func (.yield l) #[] #[]] ++ lb) W1 fun e W' => (∃ v, e = .returned v) ∧ ((E W' ∧ Z W') ∨ (∃ c, X c W' ∧ Zx c W'))

theorem wpIn_range_st {σ α : Type} {g : Operand} {ps : Array Tmp} {assign body : Code} {Q : Exit → Act → World → Prop} {a : Act} {w : World}
    (hro : F.round = none) (h1 : 1 ≤ n) {gf : Nat} {lb : Array Value} (hg : a.eval g = .func (.func gf) #[] lb) (hFg : F.fn gf) (eg : ∀ args w, (callFunc gf args).run P w = .ok (.enter gf args) w)
    {encs : α → Array Value} (hps : ∀ x, (encs x).size = ps.size)
    {I : σ → World → Prop} {Y : σ → α → World → Prop} {N : σ → α → σ → Prop} {X : Code → World → Prop} {E : World → Prop} {s0 : σ}
    (hseq : SeqSt F (n - 1) P gf lb encs w.heap.size I Y N X E s0)
    (hI : OwnFrom w.heap.size I) (hY : ∀ s x, OwnFrom w.heap.size (fun (_ : Unit) W => Y s x W)) (hX : OwnFrom w.heap.size X) (hE : OwnFrom w.heap.size (fun (_ : Unit) W => E W))
    (h0 : I s0 w) (a₁ : α → Act)
    (hassign : ∀ (l : Nat) (x : α) (W : World) (K : Act → World → Prop), K (a₁ x) W →
      assign.wpIn (F.inRound l) (n - 1 - 1) P (Exit.then K (fun _ _ _ => False)) { tmps := (ps.zip (encs x)).foldl (fun t (p, v) => t.setIfInBounds p v) a.tmps, defers := [] } W)
    (hbody : ∀ (l : Nat) (s : σ) (x : α) (W : World), w.heap.size ≤ l → (∃ r, W.heap[l]? = some (.loop r)) → Y s x W → body.wpIn (F.inRound l) (n - 1 - 1) P (stPost w.heap.size I N X s x W) (a₁ x) W)
    (hdone : ∀ (D : Nat) (W : World), w.heap.size ≤ D → E W → W.heap[D]? = some (.deferred (some [])) → Q .normal { a with defers := { target := .collected D, args := #[] } :: a.defers } W)
    (hstop : ∀ (D : Nat) (c : Code) (W : World), w.heap.size ≤ D → X c W → W.heap[D]? = some (.deferred (some [])) → c.wpIn F n P Q { a with defers := { target := .collected D, args := #[] } :: a.defers } W) :
    (Code.rangeFunc g ps assign body).wpIn F n P Q a w := by
  refine wpIn_rangeFunc ?_
  intro fn hfn
  rw [hro]
  obtain ⟨rec, hrec⟩ : ∃ rec : LoopState → Option Code → Loop, rec = fun st pe => { state := st, pending := pe, fn, tmps := a.tmps, params := ps, assign, body, defers := w.heap.size } := ⟨_, rfl⟩
  obtain ⟨W1, hW1⟩ : ∃ W1, (w.alloc (.deferred (some []))).alloc (.loop (rec .ready none)) = W1 := ⟨_, rfl⟩
  have hL1 : W1.heap[w.heap.size + 1]? = some (.loop (rec .ready none)) := by
    rw [← hW1]; have := World.alloc_heap_new (w.alloc (.deferred (some []))) (.loop (rec .ready none)); rwa [World.size_alloc] at this
  have hK1 : W1.heap[w.heap.size]? = some (.deferred (some [])) := by
    rw [← hW1]; exact (Below.heap_alloc _ _ _ (by simp)).trans (World.alloc_heap_new w _)
  have hI1 : I s0 W1 := by rw [← hW1]; exact hI.alloc _ (hI.alloc _ h0)
  refine ⟨w.heap.size + 1, [{ target := .collected w.heap.size, args := #[] }], W1, { target := .fn (.func gf) lb, args := #[.func (.yield (w.heap.size + 1)) #[] #[]] }, W1, gf,
    #[.func (.yield (w.heap.size + 1)) #[] #[]] ++ lb, W1, ?_, ?_, ?_, ?_, fun _ => h1, ?_⟩
  · rw [← hW1, hrec]; exact run_enterLoop_outer _ _ _ _ _
  · simp only [resolve, hg]
    simp [go_sem]
  · intro f' hf'; simp [Target.leads] at hf'; subst hf'; exact hFg
  · simp [invoke, go_sem, eg]
  · refine (hseq (w.heap.size + 1)
      (fun W => W.heap[w.heap.size + 1]? = some (.loop (rec .ready none)) ∧ W.heap[w.heap.size]? = some (.deferred (some [])))
      (fun c W => W.heap[w.heap.size + 1]? = some (.loop (rec .done (some c))) ∧ W.heap[w.heap.size]? = some (.deferred (some [])))
      W1
      (fun A C hk hz => ⟨hk.same _ _ (by omega) hz.1 rfl, hk.same _ _ (Nat.le_refl _) hz.2 rfl⟩)
      (fun c A C hk hz => ⟨hk.same _ _ (by omega) hz.1 rfl, hk.same _ _ (Nat.le_refl _) hz.2 rfl⟩)
      ?_ hI1 ⟨hL1, hK1⟩).mono ?_
    · -- one round
      rintro s x W hy ⟨hl, hk⟩
      have hlt : w.heap.size + 1 < W.heap.size := (Array.getElem?_eq_some_iff.1 hl).1
      have hyl := run_yield (P := P) (args := encs x) hl (by rw [hrec]; exact hps x)
      rw [hrec] at hyl
      refine ⟨fn, _, assign, body, hyl, roundIn_of_wpIn hfn (hassign _ x W _ ?_)⟩
      clear hyl
      refine ⟨_, run_beginRound hl (by rw [hrec]), ?_⟩
      have hl2 : (W.putObj (w.heap.size + 1) (.loop { rec .ready none with state := .busy })).heap[w.heap.size + 1]? = some (.loop { rec .ready none with state := .busy }) := World.putObj_heap_same hlt
      have hk2 : (W.putObj (w.heap.size + 1) (.loop { rec .ready none with state := .busy })).heap[w.heap.size]? = some (.deferred (some [])) := (World.putObj_heap_other (by omega)).trans hk
      refine wpIn_mono (hbody _ s x _ (by omega) ⟨_, hl2⟩ ((hY s x).putObj (s := ()) _ hy (by omega) hl rfl)) ?_
      have fin : ∀ (jump : Option Code) (W3 : World), KeepsFrom w.heap.size (W.putObj (w.heap.size + 1) (.loop { rec .ready none with state := .busy })) W3 →
          (Instr.endRound (w.heap.size + 1) jump).run P W3 = .ok (.bool jump.isNone) (W3.putObj (w.heap.size + 1) (.loop (rec (if jump.isNone then .ready else .done) jump))) ∧
          W3.heap[w.heap.size + 1]? = some (.loop { rec .ready none with state := .busy }) ∧
          (W3.putObj (w.heap.size + 1) (.loop (rec (if jump.isNone then .ready else .done) jump))).heap[w.heap.size + 1]? = some (.loop (rec (if jump.isNone then .ready else .done) jump)) ∧
          (W3.putObj (w.heap.size + 1) (.loop (rec (if jump.isNone then .ready else .done) jump))).heap[w.heap.size]? = some (.deferred (some [])) := fun jump W3 hk3 => by
        have hl3 := hk3.same _ _ (by omega) hl2 rfl
        have := run_endRound (P := P) jump hl3
        rw [hrec] at this ⊢
        exact ⟨this, by rw [hrec] at hl3; exact hl3, World.putObj_heap_same (Array.getElem?_eq_some_iff.1 hl3).1, (World.putObj_heap_other (by omega)).trans (hk3.same _ _ (Nat.le_refl _) hk2 rfl)⟩
      rintro e a3 W3 hp
      cases e with
      | normal =>
        obtain ⟨hk3, s', hN, hi3⟩ := hp
        obtain ⟨hr, hl3, hl4, hk4⟩ := fin none W3 hk3
        exact ⟨_, _, hr, .inl ⟨rfl, ⟨s', hN, hI.putObj _ hi3 (by omega) hl3 rfl⟩, hl4, hk4⟩⟩
      | ret =>
        obtain ⟨hk3, hi3⟩ := hp
        obtain ⟨hr, hl3, hl4, hk4⟩ := fin (some .ret) W3 hk3
        exact ⟨_, _, hr, .inr ⟨rfl, .ret, hX.putObj _ hi3 (by omega) hl3 rfl, hl4, hk4⟩⟩
      | exit id =>
        obtain ⟨hk3, hi3⟩ := hp
        obtain ⟨hr, hl3, hl4, hk4⟩ := fin (some (.exit id)) W3 hk3
        exact ⟨_, _, hr, .inr ⟨rfl, .exit id, hX.putObj _ hi3 (by omega) hl3 rfl, hl4, hk4⟩⟩
      | goto t =>
        obtain ⟨hk3, hi3⟩ := hp
        obtain ⟨hr, hl3, hl4, hk4⟩ := fin (some (.goto t)) W3 hk3
        exact ⟨_, _, hr, .inr ⟨rfl, .goto t, hX.putObj _ hi3 (by omega) hl3 rfl, hl4, hk4⟩⟩
      | panic ch => exact hp.elim
      | outgrown => exact hp.elim
    · -- behind the iterator
      rintro e W2 ⟨⟨v, rfl⟩, (⟨hi, hl, hk⟩ | ⟨c, hi, hl, hk⟩)⟩
      · exact ⟨none, _, by have := run_endLoop (P := P) hl (by rw [hrec]; simp); rw [hrec] at this; exact this, hdone _ _ (Nat.le_refl _) (hE.putObj (s := ()) _ hi (by omega) hl rfl) ((World.putObj_heap_other (by omega)).trans hk)⟩
      · exact ⟨some c, _, by have := run_endLoop (P := P) hl (by rw [hrec]; simp); rw [hrec] at this; exact this, hstop _ c _ (Nat.le_refl _) (hX.putObj _ hi (by omega) hl rfl) ((World.putObj_heap_other (by omega)).trans hk)⟩

/-! ### a region that draws its order, within a round: by the plain walk -/
theorem wpOpIn_round {ops : Array Oper} {Q : Exit → Act → World → Prop} {i l : Nat} {K : Act → World → Prop} {a : Act} {w : World} (hnd : ∀ o, ops[i]? = some o → ∀ c, o.op ≠ .defer c) (hQ : ¬ LetsOut Q)
    (h : wpOp P ops Q i K a w) : wpOpIn (Fence.wide.inRound l) n P ops Q i K a w := by
  unfold wpOp at h
  unfold wpOpIn
  cases ho : ops[i]? with
  | none => simp only [ho] at h ⊢; exact h
  | some o =>
    simp only [ho] at h ⊢
    split
    · rename_i hw
      simp only [hw, if_true] at h
      rcases h with h | ⟨_, h⟩
      · refine ⟨fun _ _ => trivial, ?_⟩
        rw [Oper.semAt_eq _ _ _ (hnd o ho)]
        unfold Oper.wp at h
        generalize (execOp a.eval o).run P w = r at h ⊢
        cases r with
        | ok x w' =>
          cases x <;> simp only [Oper.upon] at h
          case value v => exact h
          case skip => exact h
          case defer d => exact h
          case enter f args =>
            refine ⟨(fun hd => nomatch hd), CallsIn.inRound l (callsIn_wide.2 ?_)⟩
            exact h.mono (fun e w'' he => by cases e <;> exact he)
          case row row args =>
            refine ⟨(fun hd => nomatch hd), fun c cs _ => ?_⟩
            obtain ⟨v, w'', r, s⟩ := h c cs
            exact ⟨v, w'', r, stepsIn_wide.2 s⟩
        | halt x w' => cases x <;> simp only [Oper.upon] at h <;> exact h
      · exact absurd h hQ
    · rename_i hw
      simp only [hw] at h
      exact ⟨fun _ _ => trivial, h⟩

theorem wpAnyIn_round {ops : Array Oper} {Q : Exit → Act → World → Prop} {l : Nat} {md : Region.Mode} (hnd : ∀ (i : Nat) (o : Oper), ops[i]? = some o → ∀ c, o.op ≠ .defer c) (hQ : ¬ LetsOut Q) :
    ∀ (fuel : Nat) (listed : Array Bool) (a : Act) (w : World), wpAny P md ops Q fuel listed a w → wpAnyIn (Fence.wide.inRound l) n P md ops Q fuel listed a w
  | 0, _, _, _, h => h
  | fuel + 1, _, _, _, h => ⟨h.1, fun i hi => wpOpIn_round (hnd i) hQ (wpOp_mono (fun a' w' h' => wpAnyIn_round hnd hQ fuel _ a' w' h') (h.2 i hi))⟩

theorem region_round {ops : Array Oper} {Q : Exit → Act → World → Prop} {l id : Nat} {a : Act} {w : World} {S : World → Prop} (hm : P.follows .mixedOrders = true) (hnd : (ops.all fun o => match o.op with | .defer _ => false | _ => true) = true) (hQ : ¬ LetsOut Q)
    (hS : S w.drew) (h : S w.drew → wpAnyH P .any ops Q S ops.size (Array.replicate ops.size false) a w.drew) : (Code.region id ops true).wpIn (Fence.wide.inRound l) n P Q a w := by
  refine wpIn_region_any hm (wpAnyIn_round (fun i o ho c hc => ?_) hQ _ _ _ _ (wpAny_of_held _ _ _ _ (h hS)))
  have := (Array.all_eq_true.1 hnd) i (Array.getElem?_eq_some_iff.1 ho).1
  rw [(Array.getElem?_eq_some_iff.1 ho).2, hc] at this
  cases this

#print axioms wpIn_range_st
#print axioms region_round
end Go.Proofs.YtbblckcjedjbcaaGreatDoor
namespace Go.Proofs.YtbblckcjedjbcaaGreatDoor
open Go.RowKit
set_option linter.unusedVariables false

variable {F : Fence} {n : Nat} {P : Program}

theorem wpIn_range_sa {σ α : Type} {g : Operand} {ps : Array Tmp} {assign body : Code} {Q : Exit → Act → World → Prop} {a : Act} {w : World}
    (hro : F.round = none) (h1 : 1 ≤ n) {gf : Nat} {lb : Array Value} (hg : a.eval g = .func (.func gf) #[] lb) (hFg : F.fn gf) (eg : ∀ args w, (callFunc gf args).run P w = .ok (.enter gf args) w)
    {encs : α → Array Value} (hps : ∀ x, (encs x).size = ps.size)
    {I : σ → World → Prop} {Y : σ → α → World → Prop} {N : σ → α → σ → Prop} {X : Code → World → Prop} {E : World → Prop} {s0 : σ}
    (hseq : SeqSt F (n - 1) P gf lb encs w.heap.size I Y N X E s0)
    (hI : OwnFrom w.heap.size I) (hY : ∀ s x, OwnFrom w.heap.size (fun (_ : Unit) W => Y s x W)) (hX : OwnFrom w.heap.size X) (hE : OwnFrom w.heap.size (fun (_ : Unit) W => E W))
    (h0 : I s0 w) {A : σ → α → Act → World → Prop} (hA : ∀ s x a', OwnFrom w.heap.size (fun (_ : Unit) W => A s x a' W))
    (hassign : ∀ (l : Nat) (s : σ) (x : α) (W : World) (K : Act → World → Prop), Y s x W → (∀ a' W', A s x a' W' → KeepsFrom w.heap.size W W' → K a' W') →
      assign.wpIn (F.inRound l) (n - 1 - 1) P (Exit.then K (fun _ _ _ => False)) { tmps := (ps.zip (encs x)).foldl (fun t (p, v) => t.setIfInBounds p v) a.tmps, defers := [] } W)
    (hbody : ∀ (l : Nat) (s : σ) (x : α) (a' : Act) (W : World), w.heap.size ≤ l → (∃ r, W.heap[l]? = some (.loop r)) → A s x a' W → body.wpIn (F.inRound l) (n - 1 - 1) P (stPost w.heap.size I N X s x W) a' W)
    (hdone : ∀ (D : Nat) (W : World), w.heap.size ≤ D → E W → W.heap[D]? = some (.deferred (some [])) → Q .normal { a with defers := { target := .collected D, args := #[] } :: a.defers } W)
    (hstop : ∀ (D : Nat) (c : Code) (W : World), w.heap.size ≤ D → X c W → W.heap[D]? = some (.deferred (some [])) → c.wpIn F n P Q { a with defers := { target := .collected D, args := #[] } :: a.defers } W) :
    (Code.rangeFunc g ps assign body).wpIn F n P Q a w := by
  refine wpIn_rangeFunc ?_
  intro fn hfn
  rw [hro]
  obtain ⟨rec, hrec⟩ : ∃ rec : LoopState → Option Code → Loop, rec = fun st pe => { state := st, pending := pe, fn, tmps := a.tmps, params := ps, assign, body, defers := w.heap.size } := ⟨_, rfl⟩
  obtain ⟨W1, hW1⟩ : ∃ W1, (w.alloc (.deferred (some []))).alloc (.loop (rec .ready none)) = W1 := ⟨_, rfl⟩
  have hL1 : W1.heap[w.heap.size + 1]? = some (.loop (rec .ready none)) := by
    rw [← hW1]; have := World.alloc_heap_new (w.alloc (.deferred (some []))) (.loop (rec .ready none)); rwa [World.size_alloc] at this
  have hK1 : W1.heap[w.heap.size]? = some (.deferred (some [])) := by
    rw [← hW1]; exact (Below.heap_alloc _ _ _ (by simp)).trans (World.alloc_heap_new w _)
  have hI1 : I s0 W1 := by rw [← hW1]; exact hI.alloc _ (hI.alloc _ h0)
  refine ⟨w.heap.size + 1, [{ target := .collected w.heap.size, args := #[] }], W1, { target := .fn (.func gf) lb, args := #[.func (.yield (w.heap.size + 1)) #[] #[]] }, W1, gf,
    #[.func (.yield (w.heap.size + 1)) #[] #[]] ++ lb, W1, ?_, ?_, ?_, ?_, fun _ => h1, ?_⟩
  · rw [← hW1, hrec]; exact run_enterLoop_outer _ _ _ _ _
  · simp only [resolve, hg]
    simp [go_sem]
  · intro f' hf'; simp [Target.leads] at hf'; subst hf'; exact hFg
  · simp [invoke, go_sem, eg]
  · refine (hseq (w.heap.size + 1)
      (fun W => W.heap[w.heap.size + 1]? = some (.loop (rec .ready none)) ∧ W.heap[w.heap.size]? = some (.deferred (some [])))
      (fun c W => W.heap[w.heap.size + 1]? = some (.loop (rec .done (some c))) ∧ W.heap[w.heap.size]? = some (.deferred (some [])))
      W1
      (fun A C hk hz => ⟨hk.same _ _ (by omega) hz.1 rfl, hk.same _ _ (Nat.le_refl _) hz.2 rfl⟩)
      (fun c A C hk hz => ⟨hk.same _ _ (by omega) hz.1 rfl, hk.same _ _ (Nat.le_refl _) hz.2 rfl⟩)
      ?_ hI1 ⟨hL1, hK1⟩).mono ?_
    · -- one round
      rintro s x W hy ⟨hl, hk⟩
      have hlt : w.heap.size + 1 < W.heap.size := (Array.getElem?_eq_some_iff.1 hl).1
      have hyl := run_yield (P := P) (args := encs x) hl (by rw [hrec]; exact hps x)
      rw [hrec] at hyl
      refine ⟨fn, _, assign, body, hyl, roundIn_of_wpIn hfn (hassign _ s x W _ hy ?_)⟩
      clear hyl
      intro a' V hAV hKV
      replace hl : V.heap[w.heap.size + 1]? = some (.loop (rec .ready none)) := hKV.same _ _ (by omega) hl rfl
      replace hk : V.heap[w.heap.size]? = some (.deferred (some [])) := hKV.same _ _ (Nat.le_refl _) hk rfl
      replace hlt : w.heap.size + 1 < V.heap.size := (Array.getElem?_eq_some_iff.1 hl).1
      refine ⟨_, run_beginRound hl (by rw [hrec]), ?_⟩
      have hl2 : (V.putObj (w.heap.size + 1) (.loop { rec .ready none with state := .busy })).heap[w.heap.size + 1]? = some (.loop { rec .ready none with state := .busy }) := World.putObj_heap_same hlt
      have hk2 : (V.putObj (w.heap.size + 1) (.loop { rec .ready none with state := .busy })).heap[w.heap.size]? = some (.deferred (some [])) := (World.putObj_heap_other (by omega)).trans hk
      refine wpIn_mono (hbody _ s x a' _ (by omega) ⟨_, hl2⟩ ((hA s x a').putObj (s := ()) _ hAV (by omega) hl rfl)) ?_
      have fin : ∀ (jump : Option Code) (W3 : World), KeepsFrom w.heap.size (V.putObj (w.heap.size + 1) (.loop { rec .ready none with state := .busy })) W3 →
          (Instr.endRound (w.heap.size + 1) jump).run P W3 = .ok (.bool jump.isNone) (W3.putObj (w.heap.size + 1) (.loop (rec (if jump.isNone then .ready else .done) jump))) ∧
          W3.heap[w.heap.size + 1]? = some (.loop { rec .ready none with state := .busy }) ∧
          (W3.putObj (w.heap.size + 1) (.loop (rec (if jump.isNone then .ready else .done) jump))).heap[w.heap.size + 1]? = some (.loop (rec (if jump.isNone then .ready else .done) jump)) ∧
          (W3.putObj (w.heap.size + 1) (.loop (rec (if jump.isNone then .ready else .done) jump))).heap[w.heap.size]? = some (.deferred (some [])) := fun jump W3 hk3 => by
        have hl3 := hk3.same _ _ (by omega) hl2 rfl
        have := run_endRound (P := P) jump hl3
        rw [hrec] at this ⊢
        exact ⟨this, by rw [hrec] at hl3; exact hl3, World.putObj_heap_same (Array.getElem?_eq_some_iff.1 hl3).1, (World.putObj_heap_other (by omega)).trans (hk3.same _ _ (Nat.le_refl _) hk2 rfl)⟩
      rintro e a3 W3 hp
      cases e with
      | normal =>
        obtain ⟨hk3, s', hN, hi3⟩ := hp
        obtain ⟨hr, hl3, hl4, hk4⟩ := fin none W3 hk3
        exact ⟨_, _, hr, .inl ⟨rfl, ⟨s', hN, hI.putObj _ hi3 (by omega) hl3 rfl⟩, hl4, hk4⟩⟩
      | ret =>
        obtain ⟨hk3, hi3⟩ := hp
        obtain ⟨hr, hl3, hl4, hk4⟩ := fin (some .ret) W3 hk3
        exact ⟨_, _, hr, .inr ⟨rfl, .ret, hX.putObj _ hi3 (by omega) hl3 rfl, hl4, hk4⟩⟩
      | exit id =>
        obtain ⟨hk3, hi3⟩ := hp
        obtain ⟨hr, hl3, hl4, hk4⟩ := fin (some (.exit id)) W3 hk3
        exact ⟨_, _, hr, .inr ⟨rfl, .exit id, hX.putObj _ hi3 (by omega) hl3 rfl, hl4, hk4⟩⟩
      | goto t =>
        obtain ⟨hk3, hi3⟩ := hp
        obtain ⟨hr, hl3, hl4, hk4⟩ := fin (some (.goto t)) W3 hk3
        exact ⟨_, _, hr, .inr ⟨rfl, .goto t, hX.putObj _ hi3 (by omega) hl3 rfl, hl4, hk4⟩⟩
      | panic ch => exact hp.elim
      | outgrown => exact hp.elim
    · -- behind the iterator
      rintro e W2 ⟨⟨v, rfl⟩, (⟨hi, hl, hk⟩ | ⟨c, hi, hl, hk⟩)⟩
      · exact ⟨none, _, by have := run_endLoop (P := P) hl (by rw [hrec]; simp); rw [hrec] at this; exact this, hdone _ _ (Nat.le_refl _) (hE.putObj (s := ()) _ hi (by omega) hl rfl) ((World.putObj_heap_other (by omega)).trans hk)⟩
      · exact ⟨some c, _, by have := run_endLoop (P := P) hl (by rw [hrec]; simp); rw [hrec] at this; exact this, hstop _ c _ (Nat.le_refl _) (hX.putObj _ hi (by omega) hl rfl) ((World.putObj_heap_other (by omega)).trans hk)⟩


end Go.Proofs.YtbblckcjedjbcaaGreatDoor
namespace Go.Proofs.YtbblckcjedjbcaaGreatDoor
open Go.RowKit Go.Maps Go.Sort
set_option linter.unusedVariables false
set_option linter.unusedSimpArgs false

theorem all_any : ∀ (d : Nat) (w : World) (y : Lay) (D : List Way) (hs : List He) (p : Way) (v : Value) (l : List He), Tr w y D hs → p ∈ D → D.length ≤ 100000 → (∀ q ∈ D, p <+: q → q.length ≤ p.length + d) → w.ownsRow 0 91 1 v l.length (ptrs l) → (∀ k, v.ownBlock = some k → ¬ Ft y D hs k) → l.length + (allH D hs d p).length ≤ 100000 →
    Calls Tryz.prog 43 #[ndV (y.β p), v] w (AllE w v (l ++ allH D hs d p)) := by
  intro d
  induction d with
  | zero =>
    intro w y D hs p v l hT hp hD hd hv hF hl
    refine allN_step w y D hs p (fun _ => []) v l hT hp hD hv hF hl (fun w1 x v1 l1 hx _ _ _ _ => ?_)
    have := hd _ (way_kid hx) (List.prefix_append p _)
    rw [wayOf, List.length_append, List.length_singleton] at this
    omega
  | succ d ih =>
    intro w y D hs p v l hT hp hD hd hv hF hl
    refine allN_step w y D hs p (allH D hs d) v l hT hp hD hv hF hl (fun w1 x v1 l1 hx hT1 hv1 hF1 hl1 => ?_)
    refine ih w1 y D hs (wayOf p x) v1 l1 hT1 (way_kid hx) hD (fun q hq hpre => ?_) hv1 hF1 hl1
    have h1 := hd q hq ((List.prefix_append p _).trans hpre)
    rw [wayOf, List.length_append, List.length_singleton]
    omega
theorem kidsB_in {D : List Way} {p : Way} {l : List UInt8} : l ∈ kidsB D p ↔ wayOf p l ∈ D := by
  constructor
  · exact way_kid
  · intro h
    exact List.mem_map.2 ⟨⟨l.toArray⟩, kids_mem.2 h, by simp⟩
theorem wayOf_pre {p : Way} {a b : List UInt8} {q : Way} (ha : wayOf p a <+: q) (hb : wayOf p b <+: q) : a = b := by
  obtain ⟨r, rfl⟩ := ha
  obtain ⟨s, hs⟩ := hb
  unfold wayOf at hs
  rw [List.append_assoc, List.append_assoc] at hs
  have h1 := List.append_cancel_left hs
  simp only [List.cons_append, List.nil_append, List.cons.injEq] at h1
  have h2 := congrArg (fun z : ByteArray => z.data.toList) h1.1
  simpa using h2.symm
theorem all_mem (D : List Way) (hs : List He) (hup : ∀ p n, p ++ [n] ∈ D → p ∈ D) (hin : ∀ x ∈ hs, x.way ∈ D) : ∀ (d : Nat) (p : Way), (∀ q ∈ D, p <+: q → q.length ≤ p.length + d) → ∀ x, x ∈ allH D hs d p ↔ x ∈ hs ∧ p <+: x.way := by
  have hpre : ∀ r q : Way, q ++ r ∈ D → q ∈ D := by
    intro r
    induction r with
    | nil => intro q h; rwa [List.append_nil] at h
    | cons n r ih =>
      intro q h
      refine hup q n (ih (q ++ [n]) ?_)
      rw [List.append_assoc]
      exact h
  have step : ∀ (d : Nat) (p : Way) (R : Way → List He), (∀ l ∈ kidsB D p, ∀ x, x ∈ R (wayOf p l) ↔ x ∈ hs ∧ wayOf p l <+: x.way) → ∀ x, x ∈ allS D hs p R ↔ x ∈ hs ∧ p <+: x.way := by
    intro d p R hR x
    unfold allS
    rw [List.mem_append, here_mem, List.mem_flatMap]
    constructor
    · rintro (⟨h1, h2⟩ | ⟨l, hl, hx⟩)
      · exact ⟨h1, by rw [h2]; exact List.prefix_refl _⟩
      · have hl' := (sortX_perm _).mem_iff.1 hl
        have := (hR l hl' x).1 hx
        exact ⟨this.1, (List.prefix_append p _).trans this.2⟩
    · rintro ⟨h1, r, hr⟩
      cases r with
      | nil => left; exact ⟨h1, by rw [← hr, List.append_nil]⟩
      | cons n r =>
        right
        have hw : wayOf p n.data.toList = p ++ [n] := by
          unfold wayOf
          congr 2
        have hk : n.data.toList ∈ kidsB D p := by
          rw [kidsB_in, hw]
          refine hpre r _ ?_
          rw [List.append_assoc]
          have := hin x h1
          rw [← hr] at this
          exact this
        refine ⟨_, (sortX_perm _).mem_iff.2 hk, (hR _ hk x).2 ⟨h1, ?_⟩⟩
        rw [hw, ← hr]
        exact ⟨r, by simp⟩
  intro d
  induction d with
  | zero =>
    intro p hd
    refine step 0 p _ (fun l hl => ?_)
    have := hd _ (way_kid hl) (List.prefix_append p _)
    rw [wayOf, List.length_append, List.length_singleton] at this
    omega
  | succ d ih =>
    intro p hd
    refine step d p _ (fun l hl => ih (wayOf p l) (fun q hq hq2 => ?_))
    have h1 := hd q hq ((List.prefix_append p _).trans hq2)
    rw [wayOf, List.length_append, List.length_singleton]
    omega
theorem ord_nodup {hs : List He} (h : Ord hs) : hs.Nodup := by
  refine List.Pairwise.imp (fun {a b} hab hne => ?_) h
  subst hne
  have := bef_irr a.s a.i
  unfold befH at hab
  rw [this] at hab
  cases hab
theorem kidsB_nodup {D : List Way} (h : D.Nodup) (p : Way) : (kidsB D p).Nodup := by
  unfold kidsB
  refine List.Pairwise.map _ (fun a b hab hne => hab ?_) (kids_nodup h p)
  exact ByteArray.ext (Array.ext' hne)
theorem all_nodup (D : List Way) (hs : List He) (hd0 : D.Nodup) (ho : Ord hs) (hup : ∀ p n, p ++ [n] ∈ D → p ∈ D) (hin : ∀ x ∈ hs, x.way ∈ D) : ∀ (d : Nat) (p : Way), (∀ q ∈ D, p <+: q → q.length ≤ p.length + d) → (allH D hs d p).Nodup := by
  have step : ∀ (p : Way) (R : Way → List He), (∀ l ∈ kidsB D p, ∀ x, x ∈ R (wayOf p l) → wayOf p l <+: x.way) → (∀ l ∈ kidsB D p, (R (wayOf p l)).Nodup) → (allS D hs p R).Nodup := by
    intro p R hR hN
    unfold allS
    refine List.nodup_append.2 ⟨(ord_nodup ho).filter _, ?_, ?_⟩
    · refine List.pairwise_flatMap.2 ⟨fun l hl => hN l ((sortX_perm _).mem_iff.1 hl), ?_⟩
      refine List.Pairwise.imp_of_mem (fun {a b} ha hb hab x hx z hz e => hab ?_) ((sortX_perm _).nodup_iff.2 (kidsB_nodup hd0 p))
      subst e
      exact wayOf_pre (hR a ((sortX_perm _).mem_iff.1 ha) _ hx) (hR b ((sortX_perm _).mem_iff.1 hb) _ hz)
    · intro a ha b hb e
      subst e
      obtain ⟨l, hl, hx⟩ := List.mem_flatMap.1 hb
      have h1 := (hR l ((sortX_perm _).mem_iff.1 hl) _ hx).length_le
      rw [(here_mem.1 ha).2, wayOf, List.length_append, List.length_singleton] at h1
      omega
  intro d
  induction d with
  | zero =>
    intro p hd
    have hno : ∀ l ∈ kidsB D p, False := fun l hl => by
      have := hd _ (way_kid hl) (List.prefix_append p _)
      rw [wayOf, List.length_append, List.length_singleton] at this
      omega
    exact step p _ (fun l hl => (hno l hl).elim) (fun l hl => (hno l hl).elim)
  | succ d ih =>
    intro p hd
    have hdk : ∀ l, ∀ q ∈ D, wayOf p l <+: q → q.length ≤ (wayOf p l).length + d := fun l q hq hq2 => by
      have h1 := hd q hq ((List.prefix_append p _).trans hq2)
      rw [wayOf, List.length_append, List.length_singleton]
      omega
    exact step p _ (fun l hl x hx => ((all_mem D hs hup hin d (wayOf p l) (hdk l) x).1 hx).2) (fun l hl => ih _ (hdk l))
theorem all_len {D : List Way} {hs : List He} (hd0 : D.Nodup) (ho : Ord hs) (hup : ∀ p n, p ++ [n] ∈ D → p ∈ D) (hin : ∀ x ∈ hs, x.way ∈ D) {d : Nat} {p : Way} (hd : ∀ q ∈ D, p <+: q → q.length ≤ p.length + d) : (allH D hs d p).length ≤ hs.length :=
  List.Nodup.length_le_of_subset (all_nodup D hs hd0 ho hup hin d p hd) (fun x hx => ((all_mem D hs hup hin d p hd x).1 hx).1)
end Go.Proofs.YtbblckcjedjbcaaGreatDoor
namespace Go.Proofs.YtbblckcjedjbcaaGreatDoor
open Go.RowKit Go.Shelf Go.Maps
set_option linter.unusedVariables false
set_option linter.unusedSimpArgs false
attribute [local go_sem] Oper.semAt_some

/-- What was cells is the same still, but for S. -/
structure Kp (S : Nat → Prop) (V W : World) : Prop where
  size : V.heap.size ≤ W.heap.size
  cells : ∀ k cs t fr, V.heap[k]? = some (.cells cs t fr) → ¬ S k → W.heap[k]? = some (.cells cs t fr)
def NoB : Nat → Prop := fun _ => False
theorem Kp.refl (S : Nat → Prop) (V : World) : Kp S V V := ⟨Nat.le_refl _, fun _ _ _ _ h _ => h⟩
theorem Kp.trans {S : Nat → Prop} {A B C : World} (h : Kp S A B) (k : Kp S B C) : Kp S A C := ⟨Nat.le_trans h.size k.size, fun i cs t fr hi hs => k.cells i cs t fr (h.cells i cs t fr hi hs) hs⟩
theorem Kp.mono {S T : Nat → Prop} {A B : World} (h : Kp S A B) (hs : ∀ k, S k → T k) : Kp T A B := ⟨h.size, fun i cs t fr hi ht => h.cells i cs t fr hi (fun e => ht (hs i e))⟩
theorem Kp.of_chg {S : Nat → Prop} {A B : World} (h : Chg A B S) : Kp S A B := ⟨h.size, fun k cs t fr hk hs => (h.block k (lt_of_blk hk) hs).trans hk⟩
theorem Kp.of_below {A B : World} (h : Below A.heap.size A B) (S : Nat → Prop) : Kp S A B := Kp.of_chg (Chg.of_below h S)
theorem Kp.grown {S : Nat → Prop} {V W W' : World} {row : Option Nat} {B : Nat} (h : Kp S V W) (hg : W.grownBy W' row) (hr : ∀ r, row = some r → B ≤ r ∧ ∃ o : Obj, W.heap[r]? = some o ∧ o.isCells = false) : Kp S V W' := by
  refine ⟨Nat.le_trans h.size hg.size, fun k cs t fr hk hs => ?_⟩
  have h1 := h.cells k cs t fr hk hs
  rw [hg.block k (lt_of_blk h1) (fun e => ?_)]
  · exact h1
  · obtain ⟨_, o, ho, hc⟩ := hr k e.symm
    rw [h1] at ho
    cases ho
    cases hc
theorem owns_kp {w w' : World} {B e s n : Nat} {v : Value} {xs : List Value} {S : Nat → Prop} (h : w.ownsRow B e s v n xs) (hk : Kp S w w') (hs : ∀ k, v.ownBlock = some k → ¬ S k) : w'.ownsRow B e s v n xs := by
  refine ⟨h.1, ?_⟩
  rcases h.2 with h2 | ⟨g, cap, cur, hv, hB, hg, r⟩
  · exact .inl h2
  · exact .inr ⟨g, cap, cur, hv, hB, hk.cells _ _ _ _ hg (hs g (by rw [hv]; rfl)), r⟩
theorem keeps_below {A C : World} (h : Below A.heap.size A C) (B : Nat) : KeepsFrom B A C := ⟨h.size, fun k o _ hk _ => (h.block k (lt_of_blk hk)).trans hk⟩
set_option maxRecDepth 100000 in
set_option maxHeartbeats 3200000 in
/-- Walk: the receiver is boxed; the function value keeps the box. -/
theorem walk_func (p : Option Addr) (w : World) :
    Calls Tryz.prog 18 #[.pointer p] w fun e w' => e = .returned (.func (.func 42) #[] #[.pointer (some ⟨w.heap.size, 0, none⟩)]) ∧ w' = w.alloc (.cells #[.pointer p] 26) := by
  go_enter Tryz.func18, Tryz.ntmps18
  go_wp2
  go_ret
  exact ⟨rfl, rfl⟩
/-- What a walk hands on. -/
def wkL (D : List Way) (hs : List He) : List He := allH D hs 6 []
theorem wk_len {w : World} {B : Nat} {y : Lay} {D : List Way} {σ : Option Nat} {τ : Int → Value} {hs : List He} (h : TrieAt w B y D σ τ hs) : ∀ q ∈ D, [] <+: q → q.length ≤ ([] : Way).length + 6 := by
  intro q hq _
  rcases (h.cls q).1 hq with rfl | ⟨x, hx, hp⟩
  · simp
  · have := hp.length_le
    have := (parse_len (h.ok x hx)).1
    simp only [List.length_nil]
    omega
theorem wk_mem {w : World} {B : Nat} {y : Lay} {D : List Way} {σ : Option Nat} {τ : Int → Value} {hs : List He} (h : TrieAt w B y D σ τ hs) (x : He) : x ∈ wkL D hs ↔ x ∈ hs :=
  (all_mem D hs h.tr.up h.way_in 6 [] (wk_len h) x).trans ⟨fun h => h.1, fun h => ⟨h, List.nil_prefix⟩⟩
theorem wk_le {w : World} {B : Nat} {y : Lay} {D : List Way} {σ : Option Nat} {τ : Int → Value} {hs : List He} (h : TrieAt w B y D σ τ hs) : (wkL D hs).length ≤ hs.length :=
  all_len h.tr.dn h.tr.ord h.tr.up h.way_in (wk_len h)
/-- What is asked of who ranges over Walk: J q M W: between two rounds, M: the blocks that the round may turn. -/
structure WalkBy (B : Nat) (y : Lay) (D : List Way) (σ : Option Nat) (τ : Int → Value) (hs : List He) (Bb : Nat) (M0 : Nat → Prop) (J : Nat → (Nat → Prop) → World → Prop) : Prop where
  box : ∀ W, J 0 M0 W → W.cell? ⟨Bb, 0, none⟩ = some (ndV B)
  trie : ∀ W, J 0 M0 W → TrieAt W B y D σ τ hs
  out : ∀ W, J 0 M0 W → ∀ k, M0 k → k < W.heap.size ∧ ∀ h ∈ hs, h.b ≠ k
  below : ∀ q M W W', J q M W → Below W.heap.size W W' → J q M W'
abbrev WkS : Type := Nat × World × (Nat → Prop)
def WkI (J : Nat → (Nat → Prop) → World → Prop) (s : WkS) (W : World) : Prop := Kp NoB s.2.1 W ∧ J s.1 s.2.2 W
def WkY (P : List He) (J : Nat → (Nat → Prop) → World → Prop) (s : WkS) (x : He × World) (W : World) : Prop := Kp NoB x.2 W ∧ J s.1 s.2.2 W ∧ P[s.1]? = some x.1
def WkN (s : WkS) (x : He × World) (s' : WkS) : Prop := s'.1 = s.1 + 1 ∧ Kp s.2.2 x.2 s'.2.1 ∧ ∀ k, s'.2.2 k → s.2.2 k ∨ x.2.heap.size ≤ k

set_option maxRecDepth 100000 in
set_option maxHeartbeats 3200000 in
theorem walk_seq (n : Nat) (Bt : Nat) (y : Lay) (D : List Way) (σ : Option Nat) (τ : Int → Value) (hs : List He) (Bb B : Nat) (M0 : Nat → Prop) (J : Nat → (Nat → Prop) → World → Prop) (X : Code → World → Prop) (E : World → Prop) (W0 : World) (hlen : hs.length ≤ 1000) (hEJ : ∀ M W, J (wkL D hs).length M W → E W) (h : WalkBy Bt y D σ τ hs Bb M0 J) :
    SeqSt Fence.wide n Tryz.prog 42 #[.pointer (some ⟨Bb, 0, none⟩)] (fun x : He × World => #[.string x.1.p, tagV x.1.s x.1.i]) B (WkI J) (WkY (wkL D hs) J) WkN X E (0, W0, M0) := by
  intro l Z Zx W1 hZ hZx hY h0 hz0
  have hbx := h.box W1 h0.2
  have hT := h.trie W1 h0.2
  have hlD := hT.lenD
  have hle := wk_le hT
  have HAL : Hid (Calls Tryz.prog 43 #[ndV Bt, .slice none 0 0] W1 (AllE W1 (.slice none 0 0) (wkL D hs))) := by
    have h1 := all_any 6 W1 y D hs [] (.slice none 0 0) [] hT.tr hT.tr.root (by omega) (wk_len hT) (World.ownsRow_nil _ _ _ _) (fun k hk => by cases hk) (by
      have : (allH D hs 6 []).length ≤ hs.length := hle
      simp only [List.length_nil]
      omega)
    rw [hT.top, List.nil_append] at h1
    exact h1
  have HHD : Hid (∀ x ∈ wkL D hs, HdAt W1 x) := fun x hx => hT.tr.held x ((wk_mem hT x).1 hx)
  have HHS : Hid (∀ x ∈ wkL D hs, x.p.size ≤ 281474976710656) := fun x hx => by
    have h9 : x.p.size ≤ 102 := psize (by rw [hT.ok x ((wk_mem hT x).1 hx)])
    omega
  have HOU : Hid (∀ k, M0 k → k < W1.heap.size ∧ ∀ x ∈ wkL D hs, x.b ≠ k) := fun k hk => by
    obtain ⟨h1, h2⟩ := h.out W1 h0.2 k hk
    exact ⟨h1, fun x hx => h2 x ((wk_mem hT x).1 hx)⟩
  obtain ⟨P, hP⟩ : ∃ P, wkL D hs = P := ⟨_, rfl⟩
  rw [hP] at HAL HHD HHS HOU hY hEJ hle
  obtain ⟨m, hm⟩ : ∃ m, P.length = m := ⟨_, rfl⟩
  have hm1 : m ≤ 1000 := by omega
  have HM : Hid (P.length = m) := hm
  have HJ : Hid (J 0 M0 W1) := h0.2
  have HZ1 : Hid (Z W1) := hz0
  have HY : Hid _ := hY
  have HZ : Hid (∀ (A C : World), KeepsFrom B A C → Z A → Z C) := hZ
  have HBL : Hid (∀ q M W W', J q M W → Below W.heap.size W W' → J q M W') := h.below
  have HEJ : Hid (∀ M W, J P.length M W → E W) := hEJ
  clear hY hZ hZx h0 hz0 h hEJ hT hlD hle hP hlen
  refine callsIn_of_wp Tryz.func42 rfl trivial ?_ rfl
  simp only [Tryz.ntmps42, List.size_toArray, List.length_cons, List.length_nil, Nat.reduceAdd, Nat.reduceSub, Array.replicate_succ, Array.replicate_zero, List.push_toArray, List.append_toArray, List.nil_append, List.cons_append]
  gi_wp2
  refine ⟨trivial, (fun hd => nomatch hd), ?_⟩
  refine (callsIn_wide.2 HAL.out).mono ?_
  rintro e w2 ⟨v2, rfl, ho2, hc2, ha2⟩
  rw [hm] at ho2
  have HB2 : Hid (Below W1.heap.size W1 w2) := hc2.below (Nat.le_refl _) (fun k _ e => by cases e)
  have HA2 : Hid (∀ k, v2.ownBlock = some k → W1.heap.size ≤ k) := fun k hk => by
    rcases ha2 k hk with e | e
    · cases e
    · exact e
  obtain ⟨a2, c2, hv2⟩ := owns_shape ho2
  subst hv2
  have HO2 : Hid _ := ho2
  have HNG : Hid (∀ k, (Value.slice a2 m c2).ownBlock = some k → ¬ M0 k) := fun k hk hs => by
    have h1 := HA2.out k hk
    have h2 := (HOU.out k hs).1
    omega
  have HNH : Hid (∀ x ∈ P, ¬ M0 x.b) := fun x hx hs => (HOU.out _ hs).2 x hx rfl
  have HH2 : Hid (∀ x ∈ P, HdAt w2 x) := fun x hx => (HHD.out x hx).below HB2.out
  clear ho2 hc2 ha2 hbx
  gi_wp2
  gi_loopg [12] m (fun k i wr => ∃ (q : Nat) (M : Nat → Prop), k = m - q ∧ i = .int .i64 q ∧ q ≤ m ∧ Hid ((∀ k, (Value.slice a2 m c2).ownBlock = some k → ¬ M k) ∧ ∀ x ∈ P, ¬ M x.b) ∧ Hid (J q M wr) ∧ Hid (Z wr) ∧ Hid (wr.ownsRow 0 91 1 (.slice a2 m c2) m (ptrs P)) ∧ Hid (∀ x ∈ P, HdAt wr x))
  case atStart => exact ⟨0, M0, rfl, rfl, Nat.zero_le _, ⟨HNG.out, HNH.out⟩, HBL.out _ _ _ _ HJ.out HB2.out, HZ.out _ _ (keeps_below HB2.out B) HZ1.out, HO2, HH2⟩
  case round =>
    obtain ⟨q, M, rfl, rfl, hq, HMq, HJq, HZq, HOq, HHq⟩ := hrel
    by_cases hlt : q < m
    · have hlt' : (q : Int) < (m : Int) := by omega
      obtain ⟨x, hx⟩ : ∃ x, P[q]? = some x := ⟨P[q]'(by rw [HM.out]; exact hlt), List.getElem?_eq_getElem _⟩
      obtain ⟨g, hg⟩ : ∃ g, a2 = some ⟨g, 0, none⟩ := by
        rcases HOq.out.2 with ⟨h0, h1⟩ | ⟨g, cap, cur, hv, _⟩
        · omega
        · simp only [Value.slice.injEq] at hv
          exact ⟨g, hv.1⟩
      subst hg
      have n0 : wr.cell? ⟨g, q, none⟩ = some x.ptr := cell_n HOq.out (ptrs_at hx)
      have hxd := HHq.out x (List.mem_of_getElem? hx)
      obtain ⟨x0, x1, x2, x3, x4⟩ := cells_5 hxd
      have HXP : Hid (P[q]? = some x) := hx
      have hxs := HHS.out x (List.mem_of_getElem? hx)
      have HXD : Hid (HdAt wr x) := hxd
      have HCL : Hid (∀ w', _) := fun w' => xclone_any x.p hxs w'
      clear hx hxd hxs
      gi_wp2
      refine ⟨trivial, (fun hd => nomatch hd), ?_⟩
      refine (callsIn_wide.2 (HCL.out _)).mono ?_
      rintro e' w4 ⟨rfl, hb4⟩
      have HB4 : Hid (Below wr.heap.size wr w4) := hb4
      clear hb4
      gi_wp2
      refine ⟨trivial, (fun hd => nomatch hd), ?_⟩
      refine (callsIn_wide.2 (tag_any x _ (HXD.out.below HB4.out))).mono ?_
      rintro e' w5 ⟨rfl, hb5⟩
      have HB5 : Hid (Below wr.heap.size wr w5) := xtrans2 HB4.out hb5
      obtain ⟨fn, tmps, assign, body, hyl, hR⟩ := HY.out (q, wr, M) (x, w5) w5 ⟨Kp.refl _ _, HBL.out _ _ _ _ HJq.out HB5.out, HXP.out⟩ (HZ.out _ _ (keeps_below HB5.out B) HZq.out)
      have HR : Hid _ := hR
      clear hR hb5 n0 x0 x1 x2 x3 x4
      gi_wp2
      refine ⟨(fun hd => nomatch hd), ?_⟩
      refine RoundIn.mono HR.out ?_
      rintro e' W3 (⟨rfl, ⟨s', hN, hI3⟩, hZ3⟩ | ⟨rfl, c3, hX3⟩)
      · obtain ⟨q', V', M'⟩ := s'
        obtain ⟨hN1, hN2, hN3⟩ := hN
        obtain ⟨hI1, hI2⟩ := hI3
        simp only at hN1 hN2 hN3 hI1 hI2
        subst hN1
        have hkp : Kp M w5 W3 := hN2.trans (hI1.mono (fun _ h => h.elim))
        have HJ3 : Hid (J (q + 1) M' W3) := hI2
        have HZ3 : Hid (Z W3) := hZ3
        have ho5 := owns_below HOq.out HB5.out
        have HO3 : Hid (W3.ownsRow 0 91 1 (.slice (some ⟨g, 0, none⟩) m c2) m (ptrs P)) := owns_kp ho5 hkp HMq.out.1
        have HH3 : Hid (∀ x ∈ P, HdAt W3 x) := fun x hx => hkp.cells _ _ _ _ ((HHq.out x hx).below HB5.out) (HMq.out.2 x hx)
        have HM3 : Hid ((∀ k, (Value.slice (some ⟨g, 0, none⟩) m c2).ownBlock = some k → ¬ M' k) ∧ ∀ x ∈ P, ¬ M' x.b) := by
          refine ⟨fun k hk hm => ?_, fun x hx hm => ?_⟩
          · rcases hN3 k hm with h1 | h1
            · exact HMq.out.1 k hk h1
            · have h2 := (ho5.lt k hk).2
              omega
          · rcases hN3 _ hm with h1 | h1
            · exact HMq.out.2 x hx h1
            · have h2 := lt_of_blk ((HHq.out x hx).below HB5.out)
              omega
        clear hkp hI1 hI2 hZ3 hN2 hN3 ho5
        gi_wp2
        gi_roundg (m - (q + 1))
        case rel => exact ⟨q + 1, M', rfl, by go_num, by omega, HM3, HJ3, HZ3, HO3, HH3⟩
        case measure => omega
      · have HX3 : Hid _ := hX3
        clear hX3
        gi_wp2
        refine bodyPost_ret (results_none rfl _ _ _) rfl ?_
        exact ⟨⟨_, rfl⟩, .inr ⟨c3, HX3.out⟩⟩
    · obtain rfl : q = m := by omega
      gi_wp2
      refine bodyPost_end (results_none rfl _ _ _) rfl ?_
      exact ⟨⟨_, rfl⟩, .inl ⟨HEJ.out M _ (by rw [HM.out]; exact HJq.out), HZq.out⟩⟩
end Go.Proofs.YtbblckcjedjbcaaGreatDoor
