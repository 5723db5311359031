/-
  RingMayStop: what lies in memory as it is ranged.
-/
import Derived.Test.YtonppfnjeomcoaaRStop1
namespace Go.Proofs.Ytonppfnjeomcoaa
open Go.RowKit
set_option linter.unusedVariables false
set_option linter.unusedSimpArgs false

theorem calls_round {l n f : Nat} {args : Array Value} {w : World} {Q : Ending → World → Prop} (h : Calls Try.prog f args w Q) : CallsIn (Fence.wide.inRound l) n Try.prog f args w Q := CallsIn.inRound l (callsIn_wide.2 h)
/-- How the blocks lie behind one another. -/
structure Lie (z0 z2 z4 z5 b : Nat) : Prop where
  a : z0 + 2 ≤ b
  b : b < z2
  c : z2 < z4
  d : z4 + 1 < z5
/-- What no round turns. -/
structure SB (z0 z2 z4 z5 b : Nat) (k : Int) (wv : Value) (P : List PEnt) (W : World) : Prop where
  kb : W.heap[z0]? = some (.cells #[.int .i64 k] 3 (0, 0))
  rb : W.heap[z0 + 1]? = some (.cells #[.bool false] 4 (0, 0))
  gb : W.heap[z2]? = some (.cells #[.pointer (some ⟨b, 0, none⟩)] 23 (0, 0))
  ws : W.heap[z4]? = some (.cells #[wv] 25 (0, 0))
  al : W.heap[z4 + 1]? = some (.cells #[.pointer (some ⟨b, 0, none⟩)] 23 (0, 0))
  sq : W.heap[z5]? = some (.cells #[.func (.func 27) #[] #[.pointer (some ⟨z4 + 1, 0, none⟩)]] 29 (0, 0))
  en : EntsAt W wv P
theorem SB.kp {z0 z2 z4 z5 b : Nat} {k : Int} {wv : Value} {P : List PEnt} {V W : World} {S : Nat → Prop} (h : SB z0 z2 z4 z5 b k wv P V) (o : Lie z0 z2 z4 z5 b) (hk : Kp S V W) (hS : ∀ x, S x → x = b ∨ z5 < x)
    (ht : ∀ x cs t fr, V.heap[x]? = some (.cells cs t fr) → S x → t ≠ 33 ∧ t ≠ 44) : SB z0 z2 z4 z5 b k wv P W := by
  obtain ⟨o1, o2, o3, o4⟩ := o
  refine ⟨hk.cells _ _ _ _ h.kb (fun s => ?_), hk.cells _ _ _ _ h.rb (fun s => ?_), hk.cells _ _ _ _ h.gb (fun s => ?_), hk.cells _ _ _ _ h.ws (fun s => ?_), hk.cells _ _ _ _ h.al (fun s => ?_), hk.cells _ _ _ _ h.sq (fun s => ?_), h.en.kp hk ht⟩
  all_goals
    have := hS _ s
    omega
theorem SB.kpn {z0 z2 z4 z5 b : Nat} {k : Int} {wv : Value} {P : List PEnt} {V W : World} (h : SB z0 z2 z4 z5 b k wv P V) (hk : Kp NoB V W) : SB z0 z2 z4 z5 b k wv P W :=
  ⟨hk.cells _ _ _ _ h.kb id, hk.cells _ _ _ _ h.rb id, hk.cells _ _ _ _ h.gb id, hk.cells _ _ _ _ h.ws id, hk.cells _ _ _ _ h.al id, hk.cells _ _ _ _ h.sq id, h.en.kp hk (fun _ _ _ _ _ s => s.elim)⟩
/-- Between two rounds of the outer range. -/
structure StJ (w : World) (rm n m z5 b : Nat) (k : Int) (V0 : World) (q : Nat) (W : World) : Prop where
  kp : Kp (fun x => x = b ∨ x = z5 + 1) V0 W
  at' : W.heap[z5 + 1]? = some (.cells #[.int .i64 q] 3 (0, 0))
  ring : ∃ R, StG rm n q R ∧ (q = 0 → R = fR rm n) ∧ RingAt W b R
  le : q ≤ m
  bel : Below w.heap.size w W
theorem StJ.kpn {w : World} {rm n m z5 b : Nat} {k : Int} {V0 : World} {q : Nat} {W W' : World} (h : StJ w rm n m z5 b k V0 q W) (hk : Kp NoB W W') (hb : Below w.heap.size w W') : StJ w rm n m z5 b k V0 q W' := by
  obtain ⟨R, h1, h2, h3⟩ := h.ring
  exact ⟨h.kp.trans (hk.mono (fun _ s => s.elim)), hk.cells _ _ _ _ h.at' id, ⟨R, h1, h2, h3.kp hk id (fun _ _ _ _ s => s)⟩, h.le, hb⟩
theorem bel_grown {w W W' : World} {row : Option Nat} {B : Nat} (h : Below w.heap.size w W) (hB : w.heap.size ≤ B) (hg : W.grownBy W' row) (hr : ∀ r, row = some r → B ≤ r ∧ ∃ o : Obj, W.heap[r]? = some o ∧ o.isCells = false) : Below w.heap.size w W' :=
  h.trans ⟨hg.os, hg.tape, hg.output, hg.size, fun k hk' => hg.block k (Nat.lt_of_lt_of_le hk' h.size) (fun e => by have := (hr k e.symm).1; omega)⟩
theorem StJ.grown {w : World} {rm n m z5 b : Nat} {k : Int} {V0 : World} {q : Nat} {W W' : World} {row : Option Nat} {B : Nat} (h : StJ w rm n m z5 b k V0 q W) (hB : w.heap.size ≤ B) (hg : W.grownBy W' row) (hr : ∀ r, row = some r → B ≤ r ∧ ∃ o : Obj, W.heap[r]? = some o ∧ o.isCells = false) : StJ w rm n m z5 b k V0 q W' :=
  h.kpn ((Kp.refl _ _).grown hg hr) (bel_grown h.bel hB hg hr)
theorem StJ.below {w : World} {rm n m z5 b : Nat} {k : Int} {V0 : World} {q : Nat} {W W' : World} (h : StJ w rm n m z5 b k V0 q W) (hb : Below W.heap.size W W') : StJ w rm n m z5 b k V0 q W' :=
  h.kpn (Kp.of_below hb _) (trans2 h.bel hb)
theorem StJ.sb {w : World} {rm n m z0 z2 z4 z5 b : Nat} {k : Int} {V0 : World} {q : Nat} {W : World} {wv : Value} {P : List PEnt} (h : StJ w rm n m z5 b k V0 q W) (s : SB z0 z2 z4 z5 b k wv P V0) (o : Lie z0 z2 z4 z5 b)
    (hb : ∃ cs, V0.heap[b]? = some (.cells cs 61 (0, 0))) (ha : ∃ cs, V0.heap[z5 + 1]? = some (.cells cs 3 (0, 0))) : SB z0 z2 z4 z5 b k wv P W := by
  refine s.kp o h.kp (fun x hx => by omega) (fun x cs t fr hx hs => ?_)
  obtain ⟨c1, h1⟩ := hb
  obtain ⟨c2, h2⟩ := ha
  rcases hs with rfl | rfl
  · rw [h1] at hx; cases hx; decide
  · rw [h2] at hx; cases hx; decide
def OM (z5 b : Nat) : Nat → Prop := fun x => x = b ∨ x = z5 + 1
def OJ (w : World) (rm n m z5 b : Nat) (k : Int) (V0 : World) (q : Nat) (M : Nat → Prop) (W : World) : Prop := M = OM z5 b ∧ ¬ (1 ≤ k ∧ k ≤ (q : Int)) ∧ StJ w rm n m z5 b k V0 q W
def OX (w : World) (rm n m z5 b : Nat) (k : Int) (V0 : World) (c : Code) (W : World) : Prop := c = .exit 0 ∧ ∃ q : Nat, (q : Int) = k ∧ 1 ≤ q ∧ StJ w rm n m z5 b k V0 q W
def OE (w : World) (rm n m z5 b : Nat) (k : Int) (V0 : World) (W : World) : Prop := ¬ (1 ≤ k ∧ k ≤ (m : Int)) ∧ StJ w rm n m z5 b k V0 m W
/-- A round as its variable is laid. -/
def OA (R : RingT) (W0 : World) (J : Nat → (Nat → Prop) → World → Prop) (G : Nat → EnT → Option Addr → Nat → Act) (s : AllS) (x : Value × World) (a' : Act) (W : World) : Prop :=
  ∃ ge e va vc, R.l[s.1]? = some e ∧ x.1 = e.val (.slice va e.ops.length vc) ∧ OwnOps W (.slice va e.ops.length vc) e.ops ∧ W.heap[ge]? = some (.cells #[.int .i64 e.s, .int .i64 e.v, .int .i64 e.k, .int .i64 e.se, .int .i64 e.rq, .slice va e.ops.length vc] 33 (0, 0)) ∧ W0.heap.size ≤ ge ∧ Kp NoB x.2 W ∧ J s.1 s.2.2 W ∧ a' = G ge e va vc
/-- Between two rounds of the inner range. -/
structure InJ (w : World) (B inn : Nat) (V1 : World) (j : Nat) (W : World) : Prop where
  kp : Kp (fun x => x = inn) V1 W
  inn : W.heap[inn]? = some (.cells #[.int .i64 j] 3 (0, 0))
  bel : Below w.heap.size w W
  kf : KeepsFrom B V1 W
theorem InJ.below {w : World} {B inn : Nat} {V1 : World} {j : Nat} {W W' : World} (h : InJ w B inn V1 j W) (hb : Below W.heap.size W W') : InJ w B inn V1 j W' :=
  ⟨h.kp.trans (Kp.of_below hb _), kept_block hb h.inn, trans2 h.bel hb, h.kf.trans (keeps_below hb B)⟩
theorem InJ.grown {w : World} {B B' inn : Nat} {V1 : World} {j : Nat} {W W' : World} {row : Option Nat} (h : InJ w B inn V1 j W) (hB : w.heap.size ≤ B') (hV : V1.heap.size ≤ B') (hg : W.grownBy W' row) (hr : ∀ r, row = some r → B' ≤ r ∧ ∃ o : Obj, W.heap[r]? = some o ∧ o.isCells = false) : InJ w B inn V1 j W' :=
  ⟨h.kp.grown hg hr, ((Kp.refl NoB _).grown hg hr).cells _ _ _ _ h.inn id, bel_grown h.bel hB hg hr, ownFrom_keepsFrom (β := Unit) hV () W W' row h.kf hg hr⟩
theorem InJ.set {w : World} {B inn : Nat} {V1 : World} {j : Nat} {W : World} (h : InJ w B inn V1 j W) (hw : w.heap.size ≤ inn) : InJ w B inn V1 (j + 1) (W.setCell ⟨inn, 0, none⟩ (.int .i64 ((j : Int) + 1))) :=
  ⟨h.kp.trans (Kp.of_chg (Chg.set _ _ _)), same_blk h.inn rfl, h.bel.setCell hw _, h.kf.trans ((KeepsOthers.setCell _ _ _).from _)⟩
def IM (inn : Nat) : Nat → Prop := fun x => x = inn
def IJ (w : World) (B inn : Nat) (V1 : World) (j : Nat) (M : Nat → Prop) (W : World) : Prop := M = IM inn ∧ InJ w B inn V1 j W
def IX (w : World) (B inn : Nat) (V1 : World) (c : Code) (W : World) : Prop := c = .exit 2 ∧ ∃ j, InJ w B inn V1 j W
def IE (w : World) (B inn : Nat) (V1 : World) (W : World) : Prop := ∃ j, InJ w B inn V1 j W
theorem seq_round {σ α : Type} {F : Fence} {n : Nat} {P : Program} {gf : Nat} {lb : Array Value} {encs : α → Array Value} {B : Nat} {I : σ → World → Prop} {Y : σ → α → World → Prop} {N : σ → α → σ → Prop} {X : Code → World → Prop} {E : World → Prop} {s0 : σ} (l : Nat) (h : SeqSt F n P gf lb encs B I Y N X E s0) : SeqSt (F.inRound l) n P gf lb encs B I Y N X E s0 := h
theorem Kp.fresh {S T : Nat → Prop} {A B C : World} (h : Kp S A B) (k : Kp T B C) (hT : ∀ x, T x → A.heap.size ≤ x) : Kp S A C :=
  ⟨Nat.le_trans h.size k.size, fun i cs t fr hi hs => k.cells i cs t fr (h.cells i cs t fr hi hs) (fun e => by have := hT i e; have := lt_of_blk hi; omega)⟩
theorem keeps_chg {A C : World} {b : Nat} {cs : Array Value} {t : TypeId} {fr : Nat × Nat} (h : Chg A C (fun k => k = b)) (hb : A.heap[b]? = some (.cells cs t fr)) (B : Nat) : KeepsFrom B A C :=
  ⟨h.size, fun k o _ hk ho => (h.block k (lt_of_blk hk) (fun e => by subst e; rw [hb] at hk; cases hk; cases ho)).trans hk⟩
theorem results_box1 {fn : Func} {p : Tmp} (h : fn.results = #[.cell p 4]) (tmps : Array Value) (w : World) (g1 : Nat) (b : Bool) (hp : tmps.getD p undef = .pointer (some ⟨g1, 0, none⟩)) (c1 : w.cell? ⟨g1, 0, none⟩ = some (.bool b)) :
    (results fn tmps).run Try.prog w = .ok (.bool b) w := by
  have hp' : tmps[p]?.getD undef = .pointer (some ⟨g1, 0, none⟩) := by simpa using hp
  simp only [results, h]
  simp [hp', asAddr]
  go_simp
/-- A round's end. -/
theorem stop_fin {w : World} {rm n m z5 b : Nat} {k : Int} {W0 W V1 X X1 X2 X3 : World} {q j B inn : Nat} {R : RingT} (hST : StJ w rm n m z5 b k W0 q W) (hBV : Below W.heap.size W V1) (hI : InJ w B inn V1 j X) (hin : W.heap.size ≤ inn)
    (hBX : Below X.heap.size X X1) (hC2 : Chg X1 X2 (fun x => x = b)) (hC3 : Chg X2 X3 (fun x => x = b)) (hr1 : RingAt X1 b R) (hr2 : RingAt X2 b (R.app (nxt R))) (hr3 : RingAt X3 b (stp R)) (hG : StG rm n q R) (hm : q < m) (hs : n + q + 1 ≤ 1000) (hb5 : b < z5) (hwb : w.heap.size ≤ b) :
    X3.heap[z5 + 1]? = some (.cells #[.int .i64 (q : Int)] 3 (0, 0)) ∧ StJ w rm n m z5 b k W0 (q + 1) (X3.setCell ⟨z5 + 1, 0, none⟩ (.int .i64 ((q : Int) + 1))) ∧ Kp (OM z5 b) W (X3.setCell ⟨z5 + 1, 0, none⟩ (.int .i64 ((q : Int) + 1))) ∧ KeepsFrom B W (X3.setCell ⟨z5 + 1, 0, none⟩ (.int .i64 ((q : Int) + 1))) := by
  have hlt := lt_of_blk hST.at'
  have hkX : Kp (OM z5 b) W X := (Kp.of_below hBV _).fresh hI.kp (fun x hx => by rw [hx]; exact hin)
  have hk1 : Kp (OM z5 b) W X1 := hkX.trans (Kp.of_below hBX _)
  have hk2 : Kp (OM z5 b) W X2 := hk1.trans ((Kp.of_chg hC2).mono (fun x hx => .inl hx))
  have hk3 : Kp (OM z5 b) W X3 := hk2.trans ((Kp.of_chg hC3).mono (fun x hx => .inl hx))
  have hk4 : Kp (OM z5 b) W (X3.setCell ⟨z5 + 1, 0, none⟩ (.int .i64 ((q : Int) + 1))) := hk3.trans ((Kp.of_chg (Chg.set _ _ _)).mono (fun x hx => .inr hx))
  have a1 : V1.heap[z5 + 1]? = some (.cells #[.int .i64 (q : Int)] 3 (0, 0)) := kept_block hBV hST.at'
  have a2 := hI.kp.cells _ _ _ _ a1 (fun e => by have e' : z5 + 1 = inn := e; omega)
  have a3 := kept_block hBX a2
  have a4 := (Kp.of_chg hC2).cells _ _ _ _ a3 (fun e => by have e' : z5 + 1 = b := e; omega)
  have a5 := (Kp.of_chg hC3).cells _ _ _ _ a4 (fun e => by have e' : z5 + 1 = b := e; omega)
  obtain ⟨c1, k1, _⟩ := hr1.box
  obtain ⟨c2, k2, _⟩ := hr2.box
  have hw1 := (trans2 hI.bel hBX)
  have hw2 : Below w.heap.size w X2 := hw1.trans (hC2.below hw1.size (fun x _ e => by rw [e]; exact hwb))
  have hw3 : Below w.heap.size w X3 := hw2.trans (hC3.below hw2.size (fun x _ e => by rw [e]; exact hwb))
  refine ⟨a5, ⟨hST.kp.trans hk4, same_blk a5 rfl, ⟨stp R, hG.next hs, fun h => absurd h (by omega), ?_⟩, hm, hw3.setCell (by show w.heap.size ≤ z5 + 1; omega) _⟩, hk4, ?_⟩
  · refine hr3.kp (Kp.of_chg (Chg.set _ _ _)) (fun e => ?_) (fun x cs fr hx hs => ?_)
    · have e' : b = z5 + 1 := e
      omega
    · have e' : x = z5 + 1 := hs
      subst e'
      rw [a5] at hx
      cases hx
  · exact ((((keeps_below hBV B).trans hI.kf).trans (keeps_below hBX B)).trans ((keeps_chg hC2 k1 B).trans (keeps_chg hC3 k2 B))).trans ((KeepsOthers.setCell _ _ _).from _)
end Go.Proofs.Ytonppfnjeomcoaa
