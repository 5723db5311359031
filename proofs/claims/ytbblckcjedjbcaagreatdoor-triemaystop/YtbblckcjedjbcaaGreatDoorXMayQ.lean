/-
  TrieMayStop: what the rounds hand on.
-/
import Derived.Test.YtbblckcjedjbcaaGreatDoorXMayP
namespace Go.Proofs.YtbblckcjedjbcaaGreatDoor
open Go.RowKit Go.Maps
set_option linter.unusedVariables false
set_option linter.unusedSimpArgs false

theorem keeps_bk {A C : World} {S : Nat → Prop} (h : Chg A C S) (hS : ∀ k, S k → ¬ BkS A k) (B : Nat) : KeepsBk B A C :=
  ⟨h.size, fun k o _ hk ho => (h.block k (Array.getElem?_eq_some_iff.1 hk).1 (fun e => hS k e ⟨o, hk, ho⟩)).trans hk⟩
theorem calls_roundX {l n f : Nat} {args : Array Value} {w : World} {Q : Ending → World → Prop} (h : Calls Tryz.prog f args w Q) : CallsIn (Fence.wide.inRound l) n Tryz.prog f args w Q := CallsIn.inRound l (callsIn_wide.2 h)
def OMX (t : TrX) (z5 : Nat) : Nat → Prop := fun x => t.F x ∨ x = z5 + 1
def OJX (w : World) (m z5 B : Nat) (k : Int) (t0 : TrX) (V0 : World) (q : Nat) (M : Nat → Prop) (W : World) : Prop := ∃ t, M = OMX t z5 ∧ ¬ (1 ≤ k ∧ k ≤ (q : Int)) ∧ StX w m z5 B t0 V0 q t W
def OXX (w : World) (m z5 B : Nat) (k : Int) (t0 : TrX) (V0 : World) (c : Code) (W : World) : Prop := c = .exit 0 ∧ ∃ (q : Nat) (t : TrX), (q : Int) = k ∧ 1 ≤ q ∧ StX w m z5 B t0 V0 q t W
def OEX (w : World) (m z5 B : Nat) (k : Int) (t0 : TrX) (V0 : World) (W : World) : Prop := ¬ (1 ≤ k ∧ k ≤ (m : Int)) ∧ ∃ t, StX w m z5 B t0 V0 m t W
/-- A round as its variable is laid. -/
def OAX (P : List He) (W0 : World) (J : Nat → (Nat → Prop) → World → Prop) (G : Nat → He → Act) (s : WkS) (x : He × World) (a' : Act) (W : World) : Prop :=
  ∃ ge y, x.1 = y ∧ P[s.1]? = some y ∧ W.heap[ge]? = some (.cells #[.int .i64 y.s, .int .i64 y.i] 34 (0, 0)) ∧ W0.heap.size ≤ ge ∧ Kp NoB x.2 W ∧ J s.1 s.2.2 W ∧ a' = G ge y
/-- Between two rounds of the inner range. -/
structure InX (w : World) (B0 inn : Nat) (V1 : World) (j : Nat) (W : World) : Prop where
  cb : Cb (fun x => x = inn) V1 W
  inn : W.heap[inn]? = some (.cells #[.int .i64 j] 3 (0, 0))
  bel : Below w.heap.size w W
  kf : KeepsBk B0 V1 W
theorem InX.below {w : World} {B0 inn : Nat} {V1 : World} {j : Nat} {W W' : World} (h : InX w B0 inn V1 j W) (hb : Below W.heap.size W W') : InX w B0 inn V1 j W' :=
  ⟨h.cb.trans (Cb.of_below hb), kept_block hb h.inn, xtrans2 h.bel hb, h.kf.trans (keeps_below hb B0).bk⟩
theorem InX.grown {w : World} {B0 B' inn : Nat} {V1 : World} {j : Nat} {W W' : World} {row : Option Nat} (h : InX w B0 inn V1 j W) (hV : V1.heap.size ≤ B') (hg : W.grownBy W' row) (hr : ∀ r, row = some r → B' ≤ r ∧ ∃ o : Obj, W.heap[r]? = some o ∧ o.isCells = false) (hw : w.heap.size ≤ B') (hi : inn < V1.heap.size) : InX w B0 inn V1 j W' := by
  have hblk : ∀ k, k < V1.heap.size → W'.heap[k]? = W.heap[k]? := fun k hk => hg.block k (Nat.lt_of_lt_of_le hk (Chg.size h.cb)) (fun e => by have := (hr k e.symm).1; omega)
  refine ⟨⟨(Chg.os (Chg.grown hg)).trans (Chg.os h.cb), (Chg.tape (Chg.grown hg)).trans (Chg.tape h.cb), (Chg.output (Chg.grown hg)).trans (Chg.output h.cb), Nat.le_trans (Chg.size h.cb) hg.size, fun k hk hs => (hblk k hk).trans (Chg.block h.cb k hk hs)⟩, ?_, ?_, ?_⟩
  · rw [hblk _ hi]; exact h.inn
  · exact bel_bk h.bel hw hg hr
  · exact ⟨Nat.le_trans h.kf.size hg.size, fun k o hB hk ho => (hblk k (Array.getElem?_eq_some_iff.1 hk).1).trans (h.kf.same k o hB hk ho)⟩
theorem InX.set {w : World} {B0 inn : Nat} {V1 : World} {j : Nat} {W : World} (h : InX w B0 inn V1 j W) (hw : w.heap.size ≤ inn) : InX w B0 inn V1 (j + 1) (W.setCell ⟨inn, 0, none⟩ (.int .i64 ((j : Int) + 1))) :=
  ⟨h.cb.trans (Cb.of_chg (Chg.set _ _ _)), same_blk h.inn rfl, h.bel.setCell hw _, h.kf.trans ((KeepsOthers.setCell _ _ _).from _).bk⟩
def IMX (inn : Nat) : Nat → Prop := fun x => x = inn
def IJX (w : World) (B0 inn : Nat) (V1 : World) (j : Nat) (M : Nat → Prop) (W : World) : Prop := M = IMX inn ∧ InX w B0 inn V1 j W
def IXX (w : World) (B0 inn : Nat) (V1 : World) (c : Code) (W : World) : Prop := c = .exit 2 ∧ ∃ j, InX w B0 inn V1 j W
def IEX (w : World) (B0 inn : Nat) (V1 : World) (W : World) : Prop := ∃ j, InX w B0 inn V1 j W
theorem seq_roundX {σ α : Type} {F : Fence} {n : Nat} {P : Program} {gf : Nat} {lb : Array Value} {encs : α → Array Value} {B : Nat} {I : σ → World → Prop} {Y : σ → α → World → Prop} {N : σ → α → σ → Prop} {X : Code → World → Prop} {E : World → Prop} {s0 : σ} (l : Nat) (h : SeqSt F n P gf lb encs B I Y N X E s0) : SeqSt (F.inRound l) n P gf lb encs B I Y N X E s0 := h
theorem results_box1X {fn : Func} {p : Tmp} (h : fn.results = #[.cell p 4]) (tmps : Array Value) (w : World) (g1 : Nat) (b : Bool) (hp : tmps.getD p undef = .pointer (some ⟨g1, 0, none⟩)) (c1 : w.cell? ⟨g1, 0, none⟩ = some (.bool b)) :
    (results fn tmps).run Tryz.prog w = .ok (.bool b) w := by
  have hp' : tmps[p]?.getD undef = .pointer (some ⟨g1, 0, none⟩) := by simpa using hp
  simp only [results, h]
  simp [hp', asAddr]
  go_simp
theorem hd_int {w : World} {x : He} {k : Nat} {v : Value} (hd : HdAt w x) (e : x.b = k) (h : w.heap[k]? = some (.cells #[v] 3 (0, 0))) : False := by
  unfold HdAt at hd
  rw [e, h] at hd
  simp only [Option.some.injEq, Obj.cells.injEq] at hd
  exact absurd hd.2.1 (by decide)
/-- The trie within the inner range. -/
theorem StX.inner {w : World} {m z5 B : Nat} {t0 t : TrX} {V0 : World} {q : Nat} {W V1 X : World} {B0 inn j : Nat} (h : StX w m z5 B t0 V0 q t W) (hBV : Below W.heap.size W V1) (hI : InX w B0 inn V1 j X) (hin : W.heap.size ≤ inn) : t.At X B := by
  refine (h.tr.below hBV).cb hI.cb (fun k hk e => ?_) (fun x hx e => ?_)
  · have := (h.tr.outH hk).1
    have e' : k = inn := e
    omega
  · have := lt_of_blk (h.tr |> TrieAt.tr |>.held x hx)
    have e' : x.b = inn := e
    omega
/-- A round's end. -/
theorem stop_finX {w : World} {m z5 B : Nat} {t0 t t2 t3 : TrX} {W0 W V1 X Xd X2 X3 : World} {q j B0 inn : Nat} (hST : StX w m z5 B t0 W0 q t W) (hBV : Below W.heap.size W V1) (hI : InX w B0 inn V1 j X) (hin : W.heap.size ≤ inn)
    (hBX : Below X.heap.size X Xd) (h2 : t2.At X2 B) (hE2 : TxE Xd X2 t t2) (hl2 : t2.hs.length ≤ t.hs.length + 1) (h3 : t3.At X3 B) (hE3 : TxE X2 X3 t2 t3) (hl3 : t3.hs.length ≤ t2.hs.length + 1) (hm : q < m) (hT0 : ∀ k, t0.F k → w.heap.size ≤ k ∧ k < z5) (hV : w.heap.size ≤ W0.heap.size) (hz : w.heap.size ≤ z5 + 1) :
    X3.heap[z5 + 1]? = some (.cells #[.int .i64 (q : Int)] 3 (0, 0)) ∧ StX w m z5 B t0 W0 (q + 1) t3 (X3.setCell ⟨z5 + 1, 0, none⟩ (.int .i64 ((q : Int) + 1))) ∧ Kp (OMX t z5) W (X3.setCell ⟨z5 + 1, 0, none⟩ (.int .i64 ((q : Int) + 1))) ∧ KeepsBk B0 W (X3.setCell ⟨z5 + 1, 0, none⟩ (.int .i64 ((q : Int) + 1))) ∧ ∀ k, OMX t3 z5 k → OMX t z5 k ∨ W.heap.size ≤ k := by
  have hlt := lt_of_blk hST.at'
  have hzW0 : ∀ k, t.F k → t0.F k ∨ W0.heap.size ≤ k := hST.new
  have hwk : ∀ k, t.F k → w.heap.size ≤ k := fun k hk => (hzW0 k hk).elim (fun e => (hT0 k e).1) (fun e => Nat.le_trans hV e)
  have hnz : ∀ k, t.F k → k ≠ z5 + 1 := fun k hk e => by
    subst e
    rcases hzW0 _ hk with e | e
    · have := (hT0 _ e).2; omega
    · obtain ⟨cs, h9⟩ : ∃ cs, W.heap[z5 + 1]? = some (.cells cs 3 (0, 0)) := ⟨_, hST.at'⟩
      rcases hk with (⟨p, hp, e1⟩ | ⟨p, hp, e1⟩ | ⟨p, hp, e1⟩) | (e1 | ⟨s, e1⟩)
      · obtain ⟨cur, ty, h1, h2⟩ := (TrieAt.tr hST.tr).kβ hp
        rw [e1, h9] at h1
        simp only [Option.some.injEq, Obj.cells.injEq] at h1
        obtain ⟨_, rfl, _⟩ := h1
        rcases h2 with h2 | h2
        · exact absurd h2 (by decide)
        · exact absurd h2 (by decide)
      · obtain ⟨es, c, h1⟩ := (TrieAt.tr hST.tr).kμ hp e1
        rw [h9] at h1
        cases h1
      · obtain ⟨cur, h1⟩ := (TrieAt.tr hST.tr).kρ hp e1
        rw [h9] at h1
        cases h1
      · obtain ⟨es, c, h1⟩ := (TrieAt.ses hST.tr).kσ e1
        rw [h9] at h1
        cases h1
      · obtain ⟨cur, h1⟩ := (TrieAt.ses hST.tr).kτ e1
        rw [h9] at h1
        cases h1
  have hszX : W.heap.size ≤ Xd.heap.size := Nat.le_trans hBV.size (Nat.le_trans (Chg.size hI.cb) hBX.size)
  have cX : Cb (OMX t z5) W X := ((Cb.of_below hBV).fresh hI.cb (fun x hx => .inr (by rw [show x = inn from hx]; exact hin)))
  have cd : Cb (OMX t z5) W Xd := cX.fresh (T := NoB) (Cb.of_below hBX) (fun _ e => e.elim)
  have c2 : Cb (OMX t z5) W X2 := cd.fresh (Cb.of_chg hE2.chg) (fun k hk => .inl (.inl hk))
  have n2 : ∀ k, t2.F k → t.F k ∨ W.heap.size ≤ k := fun k hk => (hE2.new k hk).imp id (fun e => Nat.le_trans hszX e)
  have c3 : Cb (OMX t z5) W X3 := c2.fresh (Cb.of_chg hE3.chg) (fun k hk => (n2 k hk).imp .inl id)
  have hsz2 : W.heap.size ≤ X2.heap.size := Chg.size c2
  have n3 : ∀ k, t3.F k → t.F k ∨ W.heap.size ≤ k := fun k hk => (hE3.new k hk).elim (n2 k) (fun e => .inr (Nat.le_trans hsz2 e))
  have cs : Cb (OMX t z5) W (X3.setCell ⟨z5 + 1, 0, none⟩ (.int .i64 ((q : Int) + 1))) := c3.fresh (Cb.of_chg (Chg.set _ _ _)) (fun k hk => .inl (.inr hk))
  have a1 : Xd.heap[z5 + 1]? = some (.cells #[.int .i64 (q : Int)] 3 (0, 0)) := kept_block hBX (hI.cb.cells (kept_block hBV hST.at') (fun e => by have e' : z5 + 1 = inn := e; omega))
  have a2 := (Kp.of_chg hE2.chg).cells _ _ _ _ a1 (fun e => hnz _ e rfl)
  have a3 := (Kp.of_chg hE3.chg).cells _ _ _ _ a2 (fun e => by
    rcases n2 _ e with e | e
    · exact hnz _ e rfl
    · omega)
  have hd2 := (hI.bel |> fun h => xtrans2 h hBX)
  have hw2 : Below w.heap.size w X2 := hd2.trans (hE2.chg.below hd2.size (fun k _ hk => hwk k hk))
  have hw3 : Below w.heap.size w X3 := hw2.trans (hE3.chg.below hw2.size (fun k _ hk => (n2 k hk).elim (hwk k) (fun e => Nat.le_trans hST.bel.size e)))
  have hw0 : W0.heap.size ≤ W.heap.size := Chg.size hST.cb
  have htd : t.At Xd B := (hST.inner hBV hI hin).below hBX
  refine ⟨a3, ⟨hST.cb.fresh cs (fun k hk => ?_), same_blk a3 rfl, ?_, ?_, fun k hk => ?_, fun h => absurd h (by omega), hm, ?_⟩, cs.kp, ?_, fun k hk => ?_⟩
  · rcases hk with hk | hk
    · exact (hzW0 k hk).imp .inl id
    · exact .inl (.inr hk)
  · refine h3.cb (Cb.of_chg (Chg.set _ _ _)) (fun k hk e => ?_) (fun x hx e => ?_)
    · have e' : k = z5 + 1 := e
      subst e'
      rcases n3 _ hk with hk | hk
      · exact hnz _ hk rfl
      · omega
    · have e' : x.b = z5 + 1 := e
      exact hd_int ((TrieAt.tr h3).held x hx) e' a3
  · have := hST.few
    omega
  · rcases n3 k hk with e | e
    · exact hzW0 k e
    · exact .inr (Nat.le_trans hw0 e)
  · exact hw3.setCell hz _
  · refine ((keeps_below hBV B0).bk.trans hI.kf).trans ((keeps_below hBX B0).bk.trans ((keeps_bk hE2.chg (fun k hk => htd.nobk hk) B0).trans ((keeps_bk hE3.chg (fun k hk => h2.nobk hk) B0).trans ((KeepsOthers.setCell _ _ _).from _).bk)))
  · rcases hk with hk | hk
    · exact (n3 k hk).imp .inl id
    · exact .inl (.inr hk)
end Go.Proofs.YtbblckcjedjbcaaGreatDoor
