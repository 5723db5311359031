/-
  A range over a sequence of single values, into a variable: outermost, and within a round.
-/
import Derived.Test.YtdjibjmhjofedabWRangeN
import Derived.Test.YtdjibjmhjofedabWTaken
namespace Go.Proofs.Ytdjibjmhjofedab
open Go.RowKit Go.Shelf
set_option linter.unusedVariables false
attribute [local go_sem] Oper.semAt_some

theorem assign_var {K : Act → World → Prop} {W : World} {l n p d rid : Nat} {t : TypeId} {pos : String} {x : Value} {tm : Array Value} (hp : p < tm.size) (hK : K { tmps := (tm.setIfInBounds p x).setIfInBounds d x, defers := [] } W) :
    (Code.region rid #[{ dst := some d, op := .assign (.tmp p), type := t, pos := pos, after := #[], guard := none }] false).wpIn (Fence.wide.inRound l) n Try.prog (Exit.then K (fun _ _ _ => False)) { tmps := ((#[p] : Array Tmp).zip #[x]).foldl (fun t (p, v) => t.setIfInBounds p v) tm, defers := [] } W := by
  have hev : ({ tmps := tm.setIfInBounds p x, defers := [] } : Act).eval (.tmp p) = x := by
    simp [Act.eval, hp]
  gi_wp2
  simp only [Act.eval, Array.getD_eq_getD_getElem?, Array.getElem?_setIfInBounds_self_of_lt hp, Option.getD_some] at *
  exact hK

theorem wpIn_range_st1 {σ : Type} {g : Operand} {n p d rid : Nat} {t : TypeId} {pos : String} {body : Code} {Q : Exit → Act → World → Prop} {a : Act} {w : World} (h1 : 1 ≤ n) {gf : Nat} {lb : Array Value} (hg : a.eval g = .func (.func gf) #[] lb) (eg : ∀ args w, (callFunc gf args).run Try.prog w = .ok (.enter gf args) w) (hp : p < a.tmps.size)
    {I : σ → World → Prop} {Y : σ → Value → World → Prop} {N : σ → Value → σ → Prop} {X : Code → World → Prop} {E : World → Prop} {s0 : σ}
    (hseq : SeqSt Fence.wide (n - 1) Try.prog gf lb (fun v : Value => #[v]) w.heap.size I Y N X E s0)
    (hI : OwnFrom w.heap.size I) (hY : ∀ s x, OwnFrom w.heap.size (fun (_ : Unit) W => Y s x W)) (hX : OwnFrom w.heap.size X) (hE : OwnFrom w.heap.size (fun (_ : Unit) W => E W))
    (h0 : I s0 w)
    (hbody : ∀ (l : Nat) (s : σ) (x : Value) (W : World), w.heap.size ≤ l → (∃ r, W.heap[l]? = some (.loop r)) → Y s x W → body.wpIn (Fence.wide.inRound l) (n - 1 - 1) Try.prog (stPost w.heap.size I N X s x W) { tmps := (a.tmps.setIfInBounds p x).setIfInBounds d x, defers := [] } W)
    (hdone : ∀ (D : Nat) (W : World), w.heap.size ≤ D → E W → W.heap[D]? = some (.deferred (some [])) → Q .normal { a with defers := { target := .collected D, args := #[] } :: a.defers } W)
    (hstop : ∀ (D : Nat) (c : Code) (W : World), w.heap.size ≤ D → X c W → W.heap[D]? = some (.deferred (some [])) → c.wpIn Fence.wide n Try.prog Q { a with defers := { target := .collected D, args := #[] } :: a.defers } W) :
    (Code.rangeFunc g #[p] (Code.region rid #[{ dst := some d, op := .assign (.tmp p), type := t, pos := pos, after := #[], guard := none }] false) body).wpIn Fence.wide n Try.prog Q a w :=
  wpIn_range_st rfl h1 hg trivial eg (fun _ => rfl) hseq hI hY hX hE h0 (fun x => { tmps := (a.tmps.setIfInBounds p x).setIfInBounds d x, defers := [] }) (fun l x W K hK => assign_var hp hK) hbody hdone hstop

theorem wpIn_range_stN1 {σ : Type} {g : Operand} {n p d rid l₀ : Nat} {r₀ : Loop} {t : TypeId} {pos : String} {body : Code} {Q : Exit → Act → World → Prop} {a : Act} {w : World} (hl₀ : w.heap[l₀]? = some (.loop r₀)) (h1 : 1 ≤ n) {gf : Nat} {lb : Array Value} (hg : a.eval g = .func (.func gf) #[] lb) (eg : ∀ args w, (callFunc gf args).run Try.prog w = .ok (.enter gf args) w) (hp : p < a.tmps.size)
    {I : σ → World → Prop} {Y : σ → Value → World → Prop} {N : σ → Value → σ → Prop} {X : Code → World → Prop} {E : World → Prop} {s0 : σ}
    (hseq : SeqSt Fence.wide (n - 1) Try.prog gf lb (fun v : Value => #[v]) w.heap.size I Y N X E s0)
    (hI : OwnFrom w.heap.size I) (hY : ∀ s x, OwnFrom w.heap.size (fun (_ : Unit) W => Y s x W)) (hX : OwnFrom w.heap.size X) (hE : OwnFrom w.heap.size (fun (_ : Unit) W => E W))
    (h0 : I s0 w)
    (hbody : ∀ (l : Nat) (s : σ) (x : Value) (W : World), w.heap.size ≤ l → (∃ r, W.heap[l]? = some (.loop r)) → Y s x W → body.wpIn (Fence.wide.inRound l) (n - 1 - 1) Try.prog (stPost w.heap.size I N X s x W) { tmps := (a.tmps.setIfInBounds p x).setIfInBounds d x, defers := [] } W)
    (hdone : ∀ (W : World), E W → Q .normal a W)
    (hstop : ∀ (c : Code) (W : World), X c W → c.wpIn (Fence.wide.inRound l₀) n Try.prog Q a W) :
    (Code.rangeFunc g #[p] (Code.region rid #[{ dst := some d, op := .assign (.tmp p), type := t, pos := pos, after := #[], guard := none }] false) body).wpIn (Fence.wide.inRound l₀) n Try.prog Q a w :=
  wpIn_range_stN rfl hl₀ h1 hg trivial eg (fun _ => rfl) (hseq.inRound l₀) hI hY hX hE h0 (fun x => { tmps := (a.tmps.setIfInBounds p x).setIfInBounds d x, defers := [] }) (fun l x W K hK => assign_var hp hK) hbody hdone hstop

section
variable {n : Nat} {P : Program}
theorem wpOpIn_out {ops : Array Oper} {Q : Exit → Act → World → Prop} {i : Nat} {K : Act → World → Prop} {a : Act} {w : World} (hnd : ∀ o, ops[i]? = some o → ∀ c, o.op ≠ .defer c) (hQ : ¬ LetsOut Q)
    (h : wpOp P ops Q i K a w) : wpOpIn Fence.wide n P ops Q i K a w := by
  unfold wpOp at h
  unfold wpOpIn
  cases ho : ops[i]? with
  | none => simp only [ho] at h ⊢; exact h
  | some o =>
    simp only [ho] at h ⊢
    split
    · rename_i hw
      simp only [hw, if_true] at h
      rcases h with h | ⟨_, h⟩
      · refine ⟨fun _ _ => trivial, ?_⟩
        rw [Oper.semAt_eq _ _ _ (hnd o ho)]
        unfold Oper.wp at h
        generalize (execOp a.eval o).run P w = r at h ⊢
        cases r with
        | ok x w' =>
          cases x <;> simp only [Oper.upon] at h
          case value v => exact h
          case skip => exact h
          case defer d => exact h
          case enter f args =>
            refine ⟨(fun hd => nomatch hd), callsIn_wide.2 ?_⟩
            exact h.mono (fun e w'' he => by cases e <;> exact he)
          case row row args =>
            refine ⟨(fun hd => nomatch hd), fun c cs _ => ?_⟩
            obtain ⟨v, w'', r, s⟩ := h c cs
            exact ⟨v, w'', r, stepsIn_wide.2 s⟩
        | halt x w' => cases x <;> simp only [Oper.upon] at h <;> exact h
      · exact absurd h hQ
    · rename_i hw
      simp only [hw] at h
      exact ⟨fun _ _ => trivial, h⟩

theorem wpAnyIn_out {ops : Array Oper} {Q : Exit → Act → World → Prop} {md : Region.Mode} (hnd : ∀ (i : Nat) (o : Oper), ops[i]? = some o → ∀ c, o.op ≠ .defer c) (hQ : ¬ LetsOut Q) :
    ∀ (fuel : Nat) (listed : Array Bool) (a : Act) (w : World), wpAny P md ops Q fuel listed a w → wpAnyIn Fence.wide n P md ops Q fuel listed a w
  | 0, _, _, _, h => h
  | fuel + 1, _, _, _, h => ⟨h.1, fun i hi => wpOpIn_out (hnd i) hQ (wpOp_mono (fun a' w' h' => wpAnyIn_out hnd hQ fuel _ a' w' h') (h.2 i hi))⟩

theorem region_out {ops : Array Oper} {Q : Exit → Act → World → Prop} {id : Nat} {a : Act} {w : World} {S : World → Prop} (hm : P.follows .mixedOrders = true) (hnd : (ops.all fun o => match o.op with | .defer _ => false | _ => true) = true) (hQ : ¬ LetsOut Q)
    (hS : S w.drew) (h : S w.drew → wpAnyH P .any ops Q S ops.size (Array.replicate ops.size false) a w.drew) : (Code.region id ops true).wpIn Fence.wide n P Q a w := by
  refine wpIn_region_any hm (wpAnyIn_out (fun i o ho c hc => ?_) hQ _ _ _ _ (wpAny_of_held _ _ _ _ (h hS)))
  have := (Array.all_eq_true.1 hnd) i (Array.getElem?_eq_some_iff.1 ho).1
  rw [(Array.getElem?_eq_some_iff.1 ho).2, hc] at this
  cases this

/-- Q, but false where it goes out otherwise than by its end. -/
def NoOut (Q : Exit → Act → World → Prop) : Exit → Act → World → Prop
  | .panic _, _, _ => False
  | .outgrown, _, _ => False
  | e, a, w => Q e a w
theorem NoOut.normal {Q : Exit → Act → World → Prop} {a : Act} {w : World} (h : Q .normal a w) : NoOut Q .normal a w := h
theorem region_held {ops : Array Oper} {Q : Exit → Act → World → Prop} {id : Nat} {a : Act} {w : World} {S : World → Prop} (hm : P.follows .mixedOrders = true) (hnd : (ops.all fun o => match o.op with | .defer _ => false | _ => true) = true)
    (hS : S w.drew) (h : S w.drew → wpAnyH P .any ops (NoOut Q) S ops.size (Array.replicate ops.size false) a w.drew) : (Code.region id ops true).wpIn Fence.wide n P Q a w :=
  wpIn_mono (region_out hm hnd (by rintro ⟨a, w, h⟩; exact h) hS h) (fun e a w h => by cases e <;> first | exact h | exact (h : False).elim)
end

/-- A call within a round. -/
theorem calls_round {l n f : Nat} {args : Array Value} {w : World} {Q : Ending → World → Prop} (h : Calls Try.prog f args w Q) : CallsIn (Fence.wide.inRound l) n Try.prog f args w Q := CallsIn.inRound l (callsIn_wide.2 h)
end Go.Proofs.Ytdjibjmhjofedab
