/-
  own.go: ViewIsNew: what is answered lies in new memory.
-/
import Derived.Test.YtlbhnlpdijhmlaaVServe
import Derived.Test.YtlbhnlpdijhmlaaVAsk
import Derived.Test.YtlbhnlpdijhmlaaVBegin
namespace Go.Proofs.Ytlbhnlpdijhmlaa
open Go.RowKit Go.MuLone
set_option linter.unusedVariables false
set_option linter.unusedSimpArgs false

theorem all_new (w : World) (K : Nat → Prop) (V : SvT) (p : Value) (h : AtV w K V p) (h0 : V.nodes ≠ 0) :
    Calls Try.prog 14 #[p] w fun e w' => ∃ u, e = .returned u ∧ w'.ownsRow 0 28 3 u (V.l.map elV).length (fl (V.l.map elV)) ∧ (∀ j, u.ownBlock = some j → w.heap.size ≤ j ∧ ¬ K j) ∧ AtV w' K V p ∧ Chg w w' K := by
  rcases h with ⟨rfl, rfl, hn⟩ | ⟨b, v, rfl, hs, hK⟩
  · exact absurd rfl h0
  · refine (all_box b V v w hs).mono ?_
    rintro e w' ⟨u, rfl, hr, hs', hc⟩
    refine ⟨u, rfl, ?_, fun j hj => ⟨(row_block hr j hj).1, fun hk => ?_⟩, .inr ⟨b, v, rfl, hs', hK⟩, hc.mono (fun j _ h => (hK j).2 (.inl h))⟩
    · rw [fl_elV, List.length_map]
      exact owns_mono hr (Nat.zero_le _)
    · have h1 := (row_block hr j hj).1
      rcases (hK j).1 hk with h9 | h9
      · have := hs.lt; omega
      · have := (row_block hs.row j h9).2; omega
theorem ask_new (w : World) (K : Nat → Prop) (V : SvT) (p : Value) (a n : Int) (ns : List Value) (h : AtV w K V p) (h0 : V.nodes ≠ 0) (hno : NoAt ns 21 n) :
    Calls Try.prog 17 #[p, .int .i64 a, .agg ns.toArray] w fun e w' => ∃ m, e = .returned m ∧ w'.ownsRow 0 47 21 m [elN (lastV V.l)].length (fl [elN (lastV V.l)]) ∧ (∀ j, m.ownBlock = some j → w.heap.size ≤ j ∧ ¬ K j) ∧ AtV w' K V p ∧ Chg w w' K := by
  rcases h with ⟨rfl, rfl, hn⟩ | ⟨b, v, rfl, hs, hK⟩
  · exact absurd rfl h0
  · refine (take_ask b V v a 21 n ns w hs h0 hno rfl).mono ?_
    rintro e w' ⟨m, rfl, ht, hs', hc⟩
    have h9 := SvT.took_ask (V := V) (f := a) (n := n) (hs.ok.some h0) (rfl : (21 : Int) = 21)
    rw [h9.1] at hs'
    rw [h9.2] at ht
    refine ⟨m, rfl, ?_, fun j hj => ?_, .inr ⟨b, v, rfl, hs', hK⟩, hc.mono (fun j _ h => (hK j).2 (.inl h))⟩
    · rcases ht with ⟨hl, rfl⟩ | ⟨g, t, hl, rfl, hg, hle⟩
      · cases hl
      · have e : tellCs (lastV V.l) = tellCs t := (List.cons.inj hl).1
        have e2 : fl [elN (lastV V.l)] = tellCs t := by rw [← e]; simp [fl, elN]
        rw [e2]
        exact ⟨rfl, .inr ⟨g, 1, _, rfl, Nat.zero_le _, hg, Nat.le_refl _, by unfold maxLen; decide, rfl, rfl⟩⟩
    · rcases ht with ⟨hl, rfl⟩ | ⟨g, t, hl, rfl, hg, hle⟩
      · cases hl
      · cases hj
        refine ⟨hle, fun hk => ?_⟩
        rcases (hK _).1 hk with h9 | h9
        · have := hs.lt
          have hle : w.heap.size ≤ g := hle
          have h9 : g = b := h9
          omega
        · have := (row_block hs.row _ h9).2
          have hle : w.heap.size ≤ g := hle
          have this : g < w.heap.size := this
          omega
theorem Nw.chg {w0 w w' : World} {K S : Nat → Prop} {V : SvT} {p : Value} (h : Nw AtV w0 w K V p) (hc : Chg w w' S) (hK : ∀ j, S j → ¬ K j) (hW : ∀ j, S j → w0.heap.size ≤ j) : Nw AtV w0 w' K V p :=
  ⟨serves.keep h.at' (Kp.of_chg hc (fun b _ hb e => hK b e hb)), ⟨hc.os.trans h.below.os, hc.tape.trans h.below.tape, hc.output.trans h.below.output, Nat.le_trans h.below.size hc.size, fun j hj => by rw [hc.block j (Nat.lt_of_lt_of_le hj h.below.size) (fun e => by have := hW j e; omega)]; exact h.below.block j hj⟩, h.new⟩
theorem Nw.asked {w0 w w' : World} {K : Nat → Prop} {V : SvT} {p : Value} (h : Nw AtV w0 w K V p) (ha : AtV w' K V p) (hc : Chg w w' K) : Nw AtV w0 w' K V p :=
  ⟨ha, ⟨hc.os.trans h.below.os, hc.tape.trans h.below.tape, hc.output.trans h.below.output, Nat.le_trans h.below.size hc.size, fun j hj => by rw [hc.block j (Nat.lt_of_lt_of_le hj h.below.size) (fun e => by have := h.new j e; omega)]; exact h.below.block j hj⟩, h.new⟩
abbrev VL (Vs : List (List VwT)) : List (List (El 3)) := Vs.map (fun l => l.map elV)
abbrev NL (Vs : List (List VwT)) : List (List (El 21)) := Vs.map (fun l => [elN (lastV l)])
abbrev PL (Vs : List (List VwT)) : List (El 3) := Vs.map (fun l => elV (lastV l))
/-- Between two asks. -/
def Qs (w wr : World) (B : Nat) (vv pv p : Value) (K : Nat → Prop) (V : SvT) (Vs : List (List VwT)) : Prop :=
  (∃ hv hn us ms xs, Ak wr B hv hn us ms (VL Vs) (NL Vs) vv pv xs (VL Vs) (PL Vs) K w.heap.size) ∧ Nw AtV w wr K V p ∧ V.nodes ≠ 0
/-- Nothing was asked yet. -/
theorem Qs.start {w w2 : World} {K : Nat → Prop} {V : SvT} {p : Value} (h : Nw AtV w w2 K V p) (h0 : V.nodes ≠ 0) : Qs w (w2.alloc (.cells #[.slice none 0 0, .slice none 0 0, .slice none 0 0, .slice none 0 0] 60)) w2.heap.size (.slice none 0 0) (.slice none 0 0) p K V [] := by
  have hb : Below w2.heap.size w2 (w2.alloc (.cells #[.slice none 0 0, .slice none 0 0, .slice none 0 0, .slice none 0 0] 60)) := (Below.refl _ _).alloc (Nat.le_refl _) _
  have hB : ∀ j, BkB w2.heap.size (.slice none 0 0) (.slice none 0 0) [] [] j → j = w2.heap.size := by
    rintro j (hj | hj | hj | ⟨_, _, hj, _⟩ | ⟨_, _, hj, _⟩)
    · exact hj
    · cases hj
    · cases hj
    · simp at hj
    · simp at hj
  have hC : ∀ j, ¬ CpB (.slice none 0 0) (.slice none 0 0) [] j := by
    rintro j (hj | hj | ⟨_, _, hj, _⟩)
    · cases hj
    · cases hj
    · simp at hj
  refine ⟨⟨.slice none 0 0, .slice none 0 0, [], [], [], ⟨⟨heap_alloc_new _ _, ⟨rfl, .inl ⟨rfl, rfl⟩⟩, ⟨rfl, .inl ⟨rfl, rfl⟩⟩, ⟨rfl, fun k u l hu => by simp at hu, fun i j u v b hu => by simp at hu⟩, ⟨rfl, fun k u l hu => by simp at hu, fun i j u v b hu => by simp at hu⟩⟩, ⟨⟨rfl, .inl ⟨rfl, rfl⟩⟩, ⟨rfl, fun k u l hu => by simp at hu, fun i j u v b hu => by simp at hu⟩, ⟨rfl, .inl ⟨rfl, rfl⟩⟩, fun j hj => by cases hj⟩, fun j _ => hC j, fun j hj hK => ?_, fun j hj => absurd hj (hC j), fun j hj => ?_, fun j hj => absurd hj (hC j)⟩⟩, h.on serves hb, h0⟩
  · have := serves.lt h.at' j hK
    have := hB j hj
    omega
  · rw [hB j hj]
    exact h.below.size
end Go.Proofs.Ytlbhnlpdijhmlaa
