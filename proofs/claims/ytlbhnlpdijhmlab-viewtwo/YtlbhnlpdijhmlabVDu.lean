/-
  view: a service and the document's, played together.
-/
import Derived.Test.YtlbhnlpdijhmlabVPlayed
import Derived.Test.YtlbhnlpdijhmlabVBegin
import Derived.Test.YtlbhnlpdijhmlabVScript
namespace Go.Proofs.Ytlbhnlpdijhmlab
open Go.RowKit
set_option linter.unusedVariables false
set_option linter.unusedSimpArgs false

/-- A service (its blocks K), and the document's: its box d, its list v in S. -/
structure Du (At : World → (Nat → Prop) → SvT → Value → Prop) (w wr : World) (K : Nat → Prop) (V : SvT) (p : Value) (d : Nat) (v : Value) (S : Nat → Prop) : Prop where
  nw : Nw At w wr K V p
  dx : wr.heap[d]? = some (.cells #[.int .i64 V.nodes, v, .bool V.set] 30 (0, 0))
  nk : ¬ K d
  dn : w.heap.size ≤ d
  row : VwsAt wr S v V.l
  lt : ∀ j, S j → j < wr.heap.size
  sk : ∀ j, S j → ¬ K j
  sd : ∀ j, S j → j ≠ d
  sn : ∀ j, S j → w.heap.size ≤ j
/-- What is theirs. -/
def Ow (K S : Nat → Prop) (d j : Nat) : Prop := K j ∨ S j ∨ j = d
theorem Du.new {At : World → (Nat → Prop) → SvT → Value → Prop} {w wr : World} {K : Nat → Prop} {V : SvT} {p : Value} {d : Nat} {v : Value} {S : Nat → Prop} (h : Du At w wr K V p d v S) (j : Nat) (hj : Ow K S d j) : w.heap.size ≤ j := by
  rcases hj with hj | hj | rfl
  · exact h.nw.new j hj
  · exact h.sn j hj
  · exact h.dn
theorem Du.old {At : World → (Nat → Prop) → SvT → Value → Prop} (sv : Serves At) {w wr : World} {K : Nat → Prop} {V : SvT} {p : Value} {d : Nat} {v : Value} {S : Nat → Prop} (h : Du At w wr K V p d v S) (j : Nat) (hj : Ow K S d j) : j < wr.heap.size := by
  rcases hj with hj | hj | rfl
  · exact sv.lt h.nw.at' j hj
  · exact h.lt j hj
  · exact lt_of_blk h.dx
theorem below_chg {w wr w' : World} {T : Nat → Prop} (h : Below w.heap.size w wr) (hc : Chg wr w' T) (hT : ∀ j, T j → w.heap.size ≤ j) : Below w.heap.size w w' :=
  ⟨hc.os.trans h.os, hc.tape.trans h.tape, hc.output.trans h.output, Nat.le_trans h.size hc.size, fun j hj => by rw [hc.block j (Nat.lt_of_lt_of_le hj h.size) (fun e => by have := hT j e; omega)]; exact h.block j hj⟩
/-- What happens elsewhere leaves them. -/
theorem Du.keep {At : World → (Nat → Prop) → SvT → Value → Prop} (sv : Serves At) {w wr w' : World} {K : Nat → Prop} {V : SvT} {p : Value} {d : Nat} {v : Value} {S T : Nat → Prop} (h : Du At w wr K V p d v S) (hc : Chg wr w' T) (hT : ∀ j, T j → w.heap.size ≤ j) (hd : ∀ j, Ow K S d j → ¬ T j) : Du At w w' K V p d v S := by
  refine ⟨⟨sv.keep h.nw.at' (Kp.of_chg hc (fun j _ hj => hd j (.inl hj))), below_chg h.nw.below hc hT, h.nw.new⟩, ?_, h.nk, h.dn, VwsAt.keep h.row (Kp.of_chg hc (fun j _ hj => hd j (.inr (.inl hj)))), fun j hj => Nat.lt_of_lt_of_le (h.lt j hj) hc.size, h.sk, h.sd, h.sn⟩
  rw [hc.block d (lt_of_blk h.dx) (hd d (.inr (.inr rfl)))]
  exact h.dx
theorem Du.on {At : World → (Nat → Prop) → SvT → Value → Prop} (sv : Serves At) {w wr w' : World} {K : Nat → Prop} {V : SvT} {p : Value} {d : Nat} {v : Value} {S : Nat → Prop} (h : Du At w wr K V p d v S) (hb : Below wr.heap.size wr w') : Du At w w' K V p d v S := h.keep sv (Chg.of_below hb (fun _ => False)) (fun _ h => h.elim) (fun _ _ h => h)
theorem Du.call {At : World → (Nat → Prop) → SvT → Value → Prop} {w wr w' : World} {K : Nat → Prop} {V : SvT} {p : Value} {d : Nat} {v : Value} {S : Nat → Prop} (h : Du At w wr K V p d v S) (he : SvE At wr K V p w') : ∃ K', Du At w w' K' V p d v S ∧ Chg wr w' K ∧ ∀ j, K' j → K j ∨ wr.heap.size ≤ j := by
  obtain ⟨K', h1, h2, h3⟩ := he
  have hd := lt_of_blk h.dx
  refine ⟨K', ⟨⟨h1, below_chg h.nw.below h2 h.nw.new, fun j hj => (h3 j hj).elim (h.nw.new j) (fun hh => Nat.le_trans h.nw.below.size hh)⟩, by rw [h2.block d hd h.nk]; exact h.dx, fun hk => (h3 d hk).elim h.nk (fun hh => by omega), h.dn, VwsAt.keep h.row (Kp.of_chg h2 (fun j _ hj => h.sk j hj)), fun j hj => Nat.lt_of_lt_of_le (h.lt j hj) h2.size, fun j hj hk => (h3 j hk).elim (h.sk j hj) (fun hh => by have := h.lt j hj; omega), h.sd, h.sn⟩, h2, h3⟩
theorem does_nodes (V : SvT) (x : WhT) : (V.does x).nodes = V.nodes := by
  have hs : ∀ n k, (V.sett n k).nodes = V.nodes := fun n k => by unfold SvT.sett; split <;> rfl
  unfold SvT.does
  split
  · unfold SvT.prom; split <;> rfl
  · split
    · exact hs _ _
    · split
      · unfold SvT.took
        split
        · exact hs _ _
        · rfl
      · rfl
/-- Behind played, ahead of the store into the document's box. -/
structure Dp (At : World → (Nat → Prop) → SvT → Value → Prop) (w wr w' : World) (K0 S0 : Nat → Prop) (V0 : SvT) (p : Value) (d : Nat) (v0 : Value) (K' : Nat → Prop) (V' : SvT) (v' : Value) : Prop where
  at' : At w' K' V' p
  chg : Chg wr w' K0
  new : ∀ j, K' j → K0 j ∨ wr.heap.size ≤ j
  row : VwsAt w' (fun j => (S0 j ∨ wr.heap.size ≤ j) ∧ ¬ K' j) v' V'.l
  dx : w'.heap[d]? = some (.cells #[.int .i64 V0.nodes, v0, .bool V0.set] 30 (0, 0))
theorem Du.played {At : World → (Nat → Prop) → SvT → Value → Prop} (sv : Serves At) {w wr : World} {K : Nat → Prop} {V : SvT} {p : Value} {d : Nat} {v : Value} {S : Nat → Prop} (h : Du At w wr K V p d v S) {y : WhT} {cs : List Value} (ha : y.At cs) :
    Calls Try.prog 9 #[p, svV V.nodes v V.set, .agg cs.toArray] wr fun e w' => ∃ a c K', e = .returned (.tuple #[svV V.nodes (.slice a (V.does (wholeT (lastV V.l) y)).l.length c) (V.does (wholeT (lastV V.l) y)).set, .bool true]) ∧ Dp At w wr w' K S V p d v K' (V.does (wholeT (lastV V.l) y)) (.slice a (V.does (wholeT (lastV V.l) y)).l.length c) := by
  refine (played_any sv wr K S V p v y cs h.nw.at' h.row (fun j _ hj => h.sk j hj) ha).mono ?_
  rintro e w' ⟨v', rfl, K', h1, h2, h3, h4⟩
  obtain ⟨a, c, rfl, -⟩ := RowAt.form h4
  exact ⟨a, c, K', rfl, h1, h2, h3, h4, by rw [h2.block d (lt_of_blk h.dx) h.nk]; exact h.dx⟩
theorem Du.put {At : World → (Nat → Prop) → SvT → Value → Prop} (sv : Serves At) {w wr w' : World} {K K' : Nat → Prop} {V V' : SvT} {p : Value} {d : Nat} {v v' : Value} {S : Nat → Prop} (h : Du At w wr K V p d v S) (hp : Dp At w wr w' K S V p d v K' V' v') (hn : V'.nodes = V.nodes) :
    ∃ S', Du At w (put_3 w' d (.int .i64 V.nodes) v' (.bool V'.set)) K' V' p d v' S' ∧ Chg wr (put_3 w' d (.int .i64 V.nodes) v' (.bool V'.set)) (Ow K S d) ∧ ∀ j, Ow K' S' d j → Ow K S d j ∨ wr.heap.size ≤ j := by
  have hd := lt_of_blk h.dx
  have hc := chg_put3 w' d (.int .i64 V.nodes) v' (.bool V'.set)
  have hC : Chg wr (put_3 w' d (.int .i64 V.nodes) v' (.bool V'.set)) (Ow K S d) := (hp.chg.mono (fun j _ hj => .inl hj)).trans (hc.mono (fun j _ hj => .inr (.inr hj)))
  have nkd : ¬ K' d := fun hk => (hp.new d hk).elim h.nk (fun hh => by omega)
  refine ⟨fun j => ((S j ∨ wr.heap.size ≤ j) ∧ ¬ K' j) ∧ j < w'.heap.size, ⟨⟨sv.keep hp.at' (Kp.of_chg hc (fun j _ hj e => nkd (by have e : j = d := e; rw [← e]; exact hj))), below_chg h.nw.below hC h.new, fun j hj => (hp.new j hj).elim (h.nw.new j) (fun hh => Nat.le_trans h.nw.below.size hh)⟩, ?_, nkd, h.dn, ?_, fun j hj => Nat.lt_of_lt_of_le hj.2 hc.size, fun j hj => hj.1.2, fun j hj e => ?_, fun j hj => ?_⟩, hC, fun j hj => ?_⟩
  · rw [hn]
    exact fill_3 hp.dx
  · refine VwsAt.keep (VwsAt.mono hp.row (fun j hj hS => ⟨hS, hj⟩)) (Kp.of_chg hc (fun j _ hj e => ?_))
    have e : j = d := e
    subst e
    exact hj.1.1.elim (fun hS => h.sd j hS rfl) (fun hh => by omega)
  · subst e
    exact hj.1.1.elim (fun hS => h.sd j hS rfl) (fun hh => by omega)
  · exact hj.1.1.elim (h.sn j) (fun hh => Nat.le_trans h.nw.below.size hh)
  · rcases hj with hj | hj | hj
    · exact (hp.new j hj).imp .inl id
    · exact hj.1.1.imp (fun hS => .inr (.inl hS)) id
    · exact .inl (.inr (.inr hj))
theorem Du.stands {At : World → (Nat → Prop) → SvT → Value → Prop} (sv : Serves At) {w wr : World} {K : Nat → Prop} {V : SvT} {p : Value} {d : Nat} {v : Value} {S : Nat → Prop} (h : Du At w wr K V p d v S) :
    Calls Try.prog 8 #[p, svV V.nodes v V.set] wr fun e w' => e = .returned (.bool true) ∧ ∃ K', Du At w w' K' V p d v S ∧ Chg wr w' K ∧ ∀ j, K' j → K j ∨ wr.heap.size ≤ j := by
  refine (stands_any sv wr K V p v S h.nw.at' h.row (fun j _ hj => h.sk j hj)).mono ?_
  rintro e w' ⟨rfl, he⟩
  exact ⟨rfl, h.call he⟩
set_option maxHeartbeats 1600000 in
theorem refNew_no (n : Int) (w : World) (h : n < 1 ∨ (¬ n < 1 ∧ 5 < n)) : Calls Try.prog 7 #[.int .i64 n] w fun e w' => e = .returned (.tuple #[svV 0 (.slice none 0 0) false, .int .i64 1]) ∧ Below w.heap.size w w' := by
  have hx : (w.alloc (.cells #[.int .i64 0, .slice none 0 0, .bool false] 30)).heap[w.heap.size]? = some (.cells #[.int .i64 0, .slice none 0 0, .bool false] 30 (0, 0)) := heap_alloc_new _ _
  have HX : Hid _ := hx
  clear hx
  rcases h with h | ⟨h1, h⟩
  all_goals
    go_enter Try.func7, Try.ntmps7
    go_wp2_with fail
    refine bodyPost_ret (results_cell_tmp rfl _ _ w.heap.size 30 _ (0, 0) _ _ rfl rfl HX.out Try.underlying30 rfl (by kernel_rfl)) rfl ⟨rfl, (Below.refl _ _).alloc (Nat.le_refl _) _⟩
end Go.Proofs.Ytlbhnlpdijhmlab
