import Derived.Test.YtlidkieljiebiaaQTwinsP
import Derived.Test.YtlidkieljiebiaaQTwin
import Derived.Test.YtlidkieljiebiaaQTwins
import Derived.Test.YtlidkieljiebiaaQWholeF
import Derived.Test.YtlidkieljiebiaaQWholeSF
import Derived.Test.YtlidkieljiebiaaQRefW
import Derived.Test.YtlidkieljiebiaaQRefX
import Derived.Test.YtlidkieljiebiaaQRefY
import Derived.Test.YtlidkieljiebiaaQSameI
namespace Go.Proofs.Ytlidkieljiebiaa
open Go.RowKit Go.ChangeShapes Go.WideShapes Go.ChangeAt
set_option linter.unusedVariables false
set_option linter.unusedSimpArgs false

structure StT.Tight (t : StT) : Prop where
  cs : TgsTight t.cs
  ps : PasTight t.ps
theorem tagged_ofT {H : Type} {enc : TypeId × Value → H} {W : World} (n : Nat) (cs : List Value) (y : DataW H × List MemPlace) (h : DataW.trod enc Try.prog W 0 (fun _ => true) true n 88 cs = some y) (hz : ∀ m ∈ y.1.weights Try.prog 88, m ≤ reachBytes) : ∃ x : TgT, (x.Small ∧ (x.tags.length + 1) * 8 ≤ 140737488355328) ∧ ∀ b o, (∀ j x', cs[j]? = some x' → W.cell? ⟨b, o + j, none⟩ = some x') → ∃ u, tgE W (fun b => b < W.heap.size) b o x u := by
  obtain ⟨xs, m, _, hx, hl, hxl, hf⟩ := DataW.trod_struct Try.underlying88 h
  rw [Try.cellsTg] at hl
  obtain ⟨c0, c1, c2, c3, c4, rfl⟩ := list5 hl
  obtain ⟨x0, x1, rfl⟩ := list2 (l := xs) hxl
  have g0 : DataW.trod enc Try.prog W 0 (fun _ => true) true m 86 (([c0, c1, c2, c3, c4].drop 0).take (Try.prog.cellsOf 86)) = [x0, x1][0]? := hf 0 _ rfl
  rw [Try.cellsChq] at g0
  have g0' : DataW.trod enc Try.prog W 0 (fun _ => true) true m 86 [c0, c1, c2, c3] = some x0 := g0
  have g1 : DataW.trod enc Try.prog W 0 (fun _ => true) true m 29 (([c0, c1, c2, c3, c4].drop 4).take (Try.prog.cellsOf 29)) = [x0, x1][1]? := hf 1 _ rfl
  rw [Try.cellsIns] at g1
  have g1' : DataW.trod enc Try.prog W 0 (fun _ => true) true m 29 [c4] = some x1 := g1
  clear g0 g1
  obtain ⟨ys, m', _, hy, hl', hyl, hg⟩ := DataW.trod_struct Try.underlying86 g0'
  obtain ⟨y0, y1, y2, y3, rfl⟩ := list4 (l := ys) hyl
  obtain ⟨z0, q0, _⟩ := DataW.trod_int Try.underlying3 (hg 0 _ rfl)
  obtain ⟨z1, q1, e1, _⟩ := DataW.trod_string Try.underlying9 (hg 1 _ rfl)
  obtain ⟨z2, q2, e2, _⟩ := DataW.trod_string Try.underlying9 (hg 2 _ rfl)
  obtain ⟨z3, q3, _⟩ := DataW.trod_int Try.underlying3 (hg 3 _ rfl)
  simp [Try.cells3', Try.cells9'] at q0 q1 q2 q3
  subst q0 q1 q2 q3
  have s1 : z1.size ≤ reachBytes := hz z1.size (by
    rw [hx]
    simp only [DataW.weights, Try.underlying88]
    refine DataW.weights_mem_each (j := 0) rfl rfl _ ?_
    rw [hy]
    simp only [DataW.weights, Try.underlying86]
    refine DataW.weights_mem_each (j := 1) rfl rfl _ ?_
    rw [e1]
    simp [DataW.weights])
  have s2 : z2.size ≤ reachBytes := hz z2.size (by
    rw [hx]
    simp only [DataW.weights, Try.underlying88]
    refine DataW.weights_mem_each (j := 0) rfl rfl _ ?_
    rw [hy]
    simp only [DataW.weights, Try.underlying86]
    refine DataW.weights_mem_each (j := 2) rfl rfl _ ?_
    rw [e2]
    simp [DataW.weights])
  obtain ⟨tl, ht, hb, _, _⟩ := row_of Try.underlying29 Try.cells3' Try.bytes3' (by decide) (inE W) (fun _ => True) int_of g1' (fun k hk => hz k (by
    rw [hx]
    simp only [DataW.weights, Try.underlying88]
    exact DataW.weights_mem_each (j := 1) rfl rfl k hk))
  unfold reachBytes at s1 s2 hb
  exact ⟨⟨z0, z1, z2, z3, tl⟩, ⟨⟨by show z1.size ≤ MaxText; unfold MaxText; omega, by show z2.size ≤ MaxText; unfold MaxText; omega, by show tl.length * 8 ≤ MaxRow; unfold MaxRow; omega⟩, by show (tl.length + 1) * 8 ≤ _; omega⟩, fun b o hc => ⟨c4, hc 0 _ rfl, hc 1 _ rfl, hc 2 _ rfl, hc 3 _ rfl, hc 4 _ rfl, ht⟩⟩
theorem part_ofT {H : Type} {enc : TypeId × Value → H} {W : World} (n : Nat) (cs : List Value) (y : DataW H × List MemPlace) (h : DataW.trod enc Try.prog W 0 (fun _ => true) true n 96 cs = some y) (hz : ∀ m ∈ y.1.weights Try.prog 96, m ≤ reachBytes) : ∃ x : PaT, (x.Small ∧ (x.nodes.length + 1) * 40 ≤ 140737488355328) ∧ ∀ b o, (∀ j x', cs[j]? = some x' → W.cell? ⟨b, o + j, none⟩ = some x') → ∃ u, paE W (fun b => b < W.heap.size) b o x u := by
  obtain ⟨xs, m, _, hx, hl, hxl, hf⟩ := DataW.trod_struct Try.underlying96 h
  rw [Try.cellsPa] at hl
  obtain ⟨c0, c1, c2, c3, c4, rfl⟩ := list5 hl
  obtain ⟨x0, x1, rfl⟩ := list2 (l := xs) hxl
  obtain ⟨z0, q0, _⟩ := DataW.trod_int Try.underlying3 (hf 0 _ rfl)
  have g0 : DataW.trod enc Try.prog W 0 (fun _ => true) true m 94 (([c0, c1, c2, c3, c4].drop 1).take (Try.prog.cellsOf 94)) = [x0, x1][1]? := hf 1 _ rfl
  rw [Try.cellsShq] at g0
  have g0' : DataW.trod enc Try.prog W 0 (fun _ => true) true m 94 [c1, c2, c3, c4] = some x1 := g0
  clear g0
  obtain ⟨ys, m', _, hy, hl', hyl, hg⟩ := DataW.trod_struct Try.underlying94 g0'
  obtain ⟨y0, y1, y2, y3, rfl⟩ := list4 (l := ys) hyl
  obtain ⟨z1, q1, _⟩ := DataW.trod_int Try.underlying3 (hg 0 _ rfl)
  obtain ⟨z2, q2, e2, _⟩ := DataW.trod_string Try.underlying9 (hg 1 _ rfl)
  obtain ⟨z3, q3, _⟩ := DataW.trod_int Try.underlying3 (hg 2 _ rfl)
  have g1 : DataW.trod enc Try.prog W 0 (fun _ => true) true m' 92 (([c1, c2, c3, c4].drop 3).take (Try.prog.cellsOf 92)) = [y0, y1, y2, y3][3]? := hg 3 _ rfl
  rw [Try.cellsSns] at g1
  have g1' : DataW.trod enc Try.prog W 0 (fun _ => true) true m' 92 [c4] = some y3 := g1
  clear g1
  simp [Try.cells3', Try.cells9'] at q0 q1 q2 q3
  subst q0 q1 q2 q3
  have s2 : z2.size ≤ reachBytes := hz z2.size (by
    rw [hx]
    simp only [DataW.weights, Try.underlying96]
    refine DataW.weights_mem_each (j := 1) rfl rfl _ ?_
    rw [hy]
    simp only [DataW.weights, Try.underlying94]
    refine DataW.weights_mem_each (j := 1) rfl rfl _ ?_
    rw [e2]
    simp [DataW.weights])
  obtain ⟨tl, ht, hb, hsm, _⟩ := row_of Try.underlying92 Try.cellsSn Try.bytesSn (by decide) (seE W) SeT.Small seen_of g1' (fun k hk => hz k (by
    rw [hx]
    simp only [DataW.weights, Try.underlying96]
    refine DataW.weights_mem_each (j := 1) rfl rfl _ ?_
    rw [hy]
    simp only [DataW.weights, Try.underlying94]
    exact DataW.weights_mem_each (j := 3) rfl rfl k hk))
  unfold reachBytes at s2 hb
  exact ⟨⟨z0, z1, z2, z3, tl⟩, ⟨⟨by show z2.size ≤ MaxText; unfold MaxText; omega, by show tl.length * 40 ≤ MaxRow; unfold MaxRow; omega, hsm⟩, by show (tl.length + 1) * 40 ≤ _; omega⟩, fun b o hc => ⟨c4, hc 0 _ rfl, hc 1 _ rfl, hc 2 _ rfl, hc 3 _ rfl, hc 4 _ rfl, ht⟩⟩
theorem step_ofT {H : Type} {enc : TypeId × Value → H} {W : World} (n : Nat) (cs : List Value) (y : DataW H × List MemPlace) (h : DataW.trod enc Try.prog W 0 (fun _ => true) true n 33 cs = some y) (hz : ∀ m ∈ y.1.weights Try.prog 33, m ≤ reachBytes) : ∃ x : StT, (x.Small ∧ x.Tight) ∧ ∀ b o, (∀ j x', cs[j]? = some x' → W.cell? ⟨b, o + j, none⟩ = some x') → ∃ u1 u2, stE W (fun b => b < W.heap.size) b o x u1 u2 := by
  obtain ⟨xs, m, _, hx, hl, hxl, hf⟩ := DataW.trod_struct Try.underlying33 h
  rw [Try.cellsStq] at hl
  obtain ⟨c0, c1, c2, c3, c4, rfl⟩ := list5 hl
  obtain ⟨x0, x1, x2, x3, x4, rfl⟩ := list5 (l := xs) hxl
  obtain ⟨z0, q0, _⟩ := DataW.trod_int Try.underlying3 (hf 0 _ rfl)
  obtain ⟨z1, q1, _⟩ := DataW.trod_int Try.underlying3 (hf 1 _ rfl)
  obtain ⟨z2, q2, _⟩ := DataW.trod_int Try.underlying3 (hf 2 _ rfl)
  have g3 : DataW.trod enc Try.prog W 0 (fun _ => true) true m 30 (([c0, c1, c2, c3, c4].drop 3).take (Try.prog.cellsOf 30)) = [x0, x1, x2, x3, x4][3]? := hf 3 _ rfl
  rw [Try.cellsTgs] at g3
  have g3' : DataW.trod enc Try.prog W 0 (fun _ => true) true m 30 [c3] = some x3 := g3
  have g4 : DataW.trod enc Try.prog W 0 (fun _ => true) true m 31 (([c0, c1, c2, c3, c4].drop 4).take (Try.prog.cellsOf 31)) = [x0, x1, x2, x3, x4][4]? := hf 4 _ rfl
  rw [Try.cellsPas] at g4
  have g4' : DataW.trod enc Try.prog W 0 (fun _ => true) true m 31 [c4] = some x4 := g4
  clear g3 g4
  simp [Try.cells3'] at q0 q1 q2
  subst q0 q1 q2
  obtain ⟨tl, ht, hb, hts, _⟩ := row_of Try.underlying30 Try.cellsTg Try.bytesTg (by decide) (fun b o t => ∃ u, tgE W (fun b => b < W.heap.size) b o t u) (fun x => x.Small ∧ (x.tags.length + 1) * 8 ≤ 140737488355328) tagged_ofT g3' (fun k hk => hz k (by
    rw [hx]
    simp only [DataW.weights, Try.underlying33]
    exact DataW.weights_mem_each (j := 3) rfl rfl k hk))
  obtain ⟨pl, hp, hbp, hps, _⟩ := row_of Try.underlying31 Try.cellsPa Try.bytesPa (by decide) (fun b o t => ∃ u, paE W (fun b => b < W.heap.size) b o t u) (fun x => x.Small ∧ (x.nodes.length + 1) * 40 ≤ 140737488355328) part_ofT g4' (fun k hk => hz k (by
    rw [hx]
    simp only [DataW.weights, Try.underlying33]
    exact DataW.weights_mem_each (j := 4) rfl rfl k hk))
  unfold reachBytes at hb hbp
  exact ⟨⟨z0, z1, z2, tl, pl⟩, ⟨⟨⟨by show tl.length * 72 ≤ MaxRow; unfold MaxRow; omega, fun t ht => (hts t ht).1⟩, ⟨by show pl.length * 64 ≤ MaxRow; unfold MaxRow; omega, fun t ht => (hps t ht).1⟩⟩, ⟨⟨by show (tl.length + 1) * 72 ≤ _; omega, fun t ht => (hts t ht).2⟩, ⟨by show (pl.length + 1) * 64 ≤ _; omega, fun t ht => (hps t ht).2⟩⟩⟩, fun b o hc => ⟨c3, c4, hc 0 _ rfl, hc 1 _ rfl, hc 2 _ rfl, hc 3 _ rfl, hc 4 _ rfl, ht, hp⟩⟩

theorem tights_of {H : Type} {enc : TypeId × Value → H} {W : World} {v : Value} {d : DataW H} {p : List MemPlace} (h : DataW.Trod enc Try.prog W 0 (fun _ => true) true 22 v d p) (hv : v.cells.toList = [v]) (hz : ∀ m ∈ d.weights Try.prog 22, m ≤ reachBytes) :
    ∃ l : List StT, StepsAt W (fun b => b < W.heap.size) v l ∧ l.length ≤ maxLen ∧ ∀ x ∈ l, x.Small ∧ x.Tight := by
  obtain ⟨fuel, hf⟩ := h
  rw [hv] at hf
  obtain ⟨l, h1, _, h3, h4⟩ := row_of Try.underlying22 Try.cellsStq Try.bytesStq (by decide) (fun b o t => ∃ u1 u2, stE W (fun b => b < W.heap.size) b o t u1 u2) (fun x => x.Small ∧ x.Tight) step_ofT hf hz
  exact ⟨l, h1, h4, h3⟩
end Go.Proofs.Ytlidkieljiebiaa
namespace Go.Proofs.Ytlidkieljiebiaa
open Go.RowKit
set_option linter.unusedVariables false
set_option linter.unusedSimpArgs false

theorem DeskAt.below {w w' : World} {D : Nat} {tv pv sv nv : Value} {L M : List Value} (h : DeskAt w D tv pv sv nv L M) (hb : Below w.heap.size w w') : DeskAt w' D tv pv sv nv L M :=
  ⟨kept_block hb h.box, by obtain ⟨n, xs, hp⟩ := h.tv; exact ⟨n, xs, owns_below hp hb⟩, by obtain ⟨n, xs, hp⟩ := h.pv; exact ⟨n, xs, owns_below hp hb⟩, h.ts.below hb, h.ns.below hb⟩
theorem DeskAt.chg {w w' : World} {D : Nat} {tv pv sv nv : Value} {L M : List Value} {T : Nat → Prop} (h : DeskAt w D tv pv sv nv L M) (hc : Chg w w' T) (hT : ∀ j, DeskK D tv pv sv nv L M j → ¬ T j) : DeskAt w' D tv pv sv nv L M :=
  ⟨by rw [hc.block D (lt_of_blk h.box) (hT D (.inl rfl))]; exact h.box, by obtain ⟨n, xs, hp⟩ := h.tv; exact ⟨n, xs, row_chg hp hc (fun k hk => hT k (.inr (.inl hk)))⟩, by obtain ⟨n, xs, hp⟩ := h.pv; exact ⟨n, xs, row_chg hp hc (fun k hk => hT k (.inr (.inr (.inl hk))))⟩, h.ts.chg hc (fun k hk => hT k (.inr (.inr (.inr (.inl hk))))) (fun t ht k hk => hT k (.inr (.inr (.inr (.inr (.inr (.inl ⟨t, ht, hk⟩)))))) ), h.ns.chg hc (fun k hk => hT k (.inr (.inr (.inr (.inr (.inl hk)))))) (fun t ht k hk => hT k (.inr (.inr (.inr (.inr (.inr (.inr ⟨t, ht, hk⟩))))))) ⟩
theorem DeskAt.lt {w : World} {D : Nat} {tv pv sv nv : Value} {L M : List Value} (h : DeskAt w D tv pv sv nv L M) : ∀ j, DeskK D tv pv sv nv L M j → j < w.heap.size := fun j hj => by
  rcases hj with hj | hj | hj | hj | hj | ⟨t, ht, hj⟩ | ⟨t, ht, hj⟩
  · rw [hj]; exact lt_of_blk h.box
  · obtain ⟨n, xs, hp⟩ := h.tv; exact (row_block hp j hj).2
  · obtain ⟨n, xs, hp⟩ := h.pv; exact (row_block hp j hj).2
  · exact (row_block h.ts.row j hj).2
  · exact (row_block h.ns.row j hj).2
  · obtain ⟨i, hi⟩ := List.getElem?_of_mem ht
    obtain ⟨_, _, _, _, _, hr⟩ := h.ts.each i t hi
    exact (row_block hr j hj).2
  · obtain ⟨i, hi⟩ := List.getElem?_of_mem ht
    obtain ⟨_, _, _, _, _, hr⟩ := h.ns.each i t hi
    exact (row_block hr j hj).2
structure Sit (w : World) (S : Nat → Prop) (B D : Nat) (Q : QuT) (v tv pv sv nv : Value) (L M : List Value) : Prop where
  q : QueueAt w S B 0 Q
  ref : ItsAt w S v Q.l
  desk : DeskAt w D tv pv sv nv L M
  hi : ∀ j, w.heap.size ≤ j → S j
  out : ∀ j, DeskK D tv pv sv nv L M j → ¬ S j ∧ j ≠ B
  snd : Snd Q.last Q.l
/-- Boxes of one's own are laid. -/
theorem Sit.begin {w w1 : World} {S X : Nat → Prop} {B D : Nat} {Q : QuT} {v tv pv sv nv : Value} {L M : List Value} (h : Sit w S B D Q v tv pv sv nv L M) (hb : Below w.heap.size w w1) (hX : ∀ j, X j → w.heap.size ≤ j ∧ j < w1.heap.size) : Sit w1 (fun j => S j ∧ ¬ X j) B D Q v tv pv sv nv L M := by
  have hs : ∀ j, j < w.heap.size → S j → S j ∧ ¬ X j := fun j hj hS => ⟨hS, fun hx => by have := hX j hx; omega⟩
  exact ⟨(h.q.mono hs (fun hB => h.q.out hB.1)).below hb, ItsAt.keep (its_mono h.ref hs) (Kp.of_below hb _), h.desk.below hb, fun j hj => ⟨h.hi j (Nat.le_trans hb.size hj), fun hx => by have := hX j hx; omega⟩, fun j hj => ⟨fun hh => (h.out j hj).1 hh.1, (h.out j hj).2⟩, h.snd⟩
/-- New blocks, and what was there, as it was. -/
theorem Sit.below {w w1 : World} {S : Nat → Prop} {B D : Nat} {Q : QuT} {v tv pv sv nv : Value} {L M : List Value} (h : Sit w S B D Q v tv pv sv nv L M) (hb : Below w.heap.size w w1) : Sit w1 S B D Q v tv pv sv nv L M :=
  ⟨h.q.below hb, ItsAt.keep h.ref (Kp.of_below hb _), h.desk.below hb, fun j hj => h.hi j (Nat.le_trans hb.size hj), h.out, h.snd⟩
/-- A block that is none of these is written. -/
theorem Sit.other {w w1 : World} {S T : Nat → Prop} {B D : Nat} {Q : QuT} {v tv pv sv nv : Value} {L M : List Value} (h : Sit w S B D Q v tv pv sv nv L M) (hc : Chg w w1 T) (hT : ∀ j, j < w.heap.size → T j → ¬ S j ∧ j ≠ B ∧ ¬ DeskK D tv pv sv nv L M j) : Sit w1 S B D Q v tv pv sv nv L M :=
  ⟨h.q.keep (Kp.of_chg hc (fun j hj hS hT' => by
    have := hT j hj hT'
    rcases hS with hS | hS
    · exact this.1 hS
    · exact this.2.1 hS)), ItsAt.keep h.ref (Kp.of_chg hc (fun j hj hS hT' => (hT j hj hT').1 hS)), h.desk.chg hc (fun j hj hT' => (hT j (h.desk.lt j hj) hT').2.2 hj), fun j hj => h.hi j (Nat.le_trans hc.size hj), h.out, h.snd⟩
/-- What a step leaves. -/
def PlE (w : World) (S : Nat → Prop) (B D : Nat) (K : Nat → Prop) (room last : Nat) (l : List ItT) (e : Ending) (w' : World) : Prop :=
  ∃ (S' : Nat → Prop) (f : Nat) (v' tv pv sv nv : Value) (L M : List Value), e = .returned (.tuple #[rqV room last v', .bool true]) ∧ Sit w' S' B D ⟨room, f, last, l⟩ v' tv pv sv nv L M ∧ (∀ j, S' j → S j) ∧ Chg w w' (fun j => j = B ∨ K j) ∧ ∀ j, DeskK D tv pv sv nv L M j → K j ∨ w.heap.size ≤ j
/-- The three boxes that plays lays at first. -/
theorem boxes3 {w : World} {a b c : Array Value} {t u : TypeId} : let W := ((w.alloc (.cells a t)).alloc (.cells b u)).alloc (.cells c t)
    (W.heap[w.heap.size]? = some (.cells a t (0, 0)) ∧ W.heap[w.heap.size + 1]? = some (.cells b u (0, 0)) ∧ W.heap[w.heap.size + 1 + 1]? = some (.cells c t (0, 0))) ∧ Below w.heap.size w W ∧ W.heap.size = w.heap.size + 1 + 1 + 1 := by
  refine ⟨⟨new_old (new_old (heap_alloc_new _ _) _) _, new_old (heap_new' (by simp)) _, heap_new' (by simp)⟩, (((Below.refl _ _).alloc (Nat.le_refl _) _).alloc (by simp) _).alloc (by simp; omega) _, by simp⟩
end Go.Proofs.Ytlidkieljiebiaa
