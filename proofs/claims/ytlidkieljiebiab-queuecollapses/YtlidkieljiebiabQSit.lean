/-
  heraldlaw10: the situation between two steps.
-/
import Derived.Test.YtlidkieljiebiabQScriptT
import Derived.Test.YtlidkieljiebiabQTwin
import Derived.Test.YtlidkieljiebiabQTwins
import Derived.Test.YtlidkieljiebiabQWholeF
import Derived.Test.YtlidkieljiebiabQWholeSF
import Derived.Test.YtlidkieljiebiabQRefW
import Derived.Test.YtlidkieljiebiabQRefX
import Derived.Test.YtlidkieljiebiabQRefY
import Derived.Test.YtlidkieljiebiabQSameI
namespace Go.Proofs.Ytlidkieljiebiab
open Go.RowKit
set_option linter.unusedVariables false
set_option linter.unusedSimpArgs false

theorem DeskAt.below {w w' : World} {D : Nat} {tv pv sv nv : Value} {L M : List Value} (h : DeskAt w D tv pv sv nv L M) (hb : Below w.heap.size w w') : DeskAt w' D tv pv sv nv L M :=
  ⟨kept_block hb h.box, by obtain ⟨n, xs, hp⟩ := h.tv; exact ⟨n, xs, owns_below hp hb⟩, by obtain ⟨n, xs, hp⟩ := h.pv; exact ⟨n, xs, owns_below hp hb⟩, h.ts.below hb, h.ns.below hb⟩
theorem DeskAt.chg {w w' : World} {D : Nat} {tv pv sv nv : Value} {L M : List Value} {T : Nat → Prop} (h : DeskAt w D tv pv sv nv L M) (hc : Chg w w' T) (hT : ∀ j, DeskK D tv pv sv nv L M j → ¬ T j) : DeskAt w' D tv pv sv nv L M :=
  ⟨by rw [hc.block D (lt_of_blk h.box) (hT D (.inl rfl))]; exact h.box, by obtain ⟨n, xs, hp⟩ := h.tv; exact ⟨n, xs, row_chg hp hc (fun k hk => hT k (.inr (.inl hk)))⟩, by obtain ⟨n, xs, hp⟩ := h.pv; exact ⟨n, xs, row_chg hp hc (fun k hk => hT k (.inr (.inr (.inl hk))))⟩, h.ts.chg hc (fun k hk => hT k (.inr (.inr (.inr (.inl hk))))) (fun t ht k hk => hT k (.inr (.inr (.inr (.inr (.inr (.inl ⟨t, ht, hk⟩)))))) ), h.ns.chg hc (fun k hk => hT k (.inr (.inr (.inr (.inr (.inl hk)))))) (fun t ht k hk => hT k (.inr (.inr (.inr (.inr (.inr (.inr ⟨t, ht, hk⟩))))))) ⟩
theorem DeskAt.lt {w : World} {D : Nat} {tv pv sv nv : Value} {L M : List Value} (h : DeskAt w D tv pv sv nv L M) : ∀ j, DeskK D tv pv sv nv L M j → j < w.heap.size := fun j hj => by
  rcases hj with hj | hj | hj | hj | hj | ⟨t, ht, hj⟩ | ⟨t, ht, hj⟩
  · rw [hj]; exact lt_of_blk h.box
  · obtain ⟨n, xs, hp⟩ := h.tv; exact (row_block hp j hj).2
  · obtain ⟨n, xs, hp⟩ := h.pv; exact (row_block hp j hj).2
  · exact (row_block h.ts.row j hj).2
  · exact (row_block h.ns.row j hj).2
  · obtain ⟨i, hi⟩ := List.getElem?_of_mem ht
    obtain ⟨_, _, _, _, _, hr⟩ := h.ts.each i t hi
    exact (row_block hr j hj).2
  · obtain ⟨i, hi⟩ := List.getElem?_of_mem ht
    obtain ⟨_, _, _, _, _, hr⟩ := h.ns.each i t hi
    exact (row_block hr j hj).2
structure Sit (w : World) (S : Nat → Prop) (B D : Nat) (Q : QuT) (v tv pv sv nv : Value) (L M : List Value) : Prop where
  q : QueueAt w S B 0 Q
  ref : ItsAt w S v Q.l
  desk : DeskAt w D tv pv sv nv L M
  hi : ∀ j, w.heap.size ≤ j → S j
  out : ∀ j, DeskK D tv pv sv nv L M j → ¬ S j ∧ j ≠ B
  snd : Snd Q.last Q.l
/-- Boxes of one's own are laid. -/
theorem Sit.begin {w w1 : World} {S X : Nat → Prop} {B D : Nat} {Q : QuT} {v tv pv sv nv : Value} {L M : List Value} (h : Sit w S B D Q v tv pv sv nv L M) (hb : Below w.heap.size w w1) (hX : ∀ j, X j → w.heap.size ≤ j ∧ j < w1.heap.size) : Sit w1 (fun j => S j ∧ ¬ X j) B D Q v tv pv sv nv L M := by
  have hs : ∀ j, j < w.heap.size → S j → S j ∧ ¬ X j := fun j hj hS => ⟨hS, fun hx => by have := hX j hx; omega⟩
  exact ⟨(h.q.mono hs (fun hB => h.q.out hB.1)).below hb, ItsAt.keep (its_mono h.ref hs) (Kp.of_below hb _), h.desk.below hb, fun j hj => ⟨h.hi j (Nat.le_trans hb.size hj), fun hx => by have := hX j hx; omega⟩, fun j hj => ⟨fun hh => (h.out j hj).1 hh.1, (h.out j hj).2⟩, h.snd⟩
/-- New blocks, and what was there, as it was. -/
theorem Sit.below {w w1 : World} {S : Nat → Prop} {B D : Nat} {Q : QuT} {v tv pv sv nv : Value} {L M : List Value} (h : Sit w S B D Q v tv pv sv nv L M) (hb : Below w.heap.size w w1) : Sit w1 S B D Q v tv pv sv nv L M :=
  ⟨h.q.below hb, ItsAt.keep h.ref (Kp.of_below hb _), h.desk.below hb, fun j hj => h.hi j (Nat.le_trans hb.size hj), h.out, h.snd⟩
/-- A block that is none of these is written. -/
theorem Sit.other {w w1 : World} {S T : Nat → Prop} {B D : Nat} {Q : QuT} {v tv pv sv nv : Value} {L M : List Value} (h : Sit w S B D Q v tv pv sv nv L M) (hc : Chg w w1 T) (hT : ∀ j, j < w.heap.size → T j → ¬ S j ∧ j ≠ B ∧ ¬ DeskK D tv pv sv nv L M j) : Sit w1 S B D Q v tv pv sv nv L M :=
  ⟨h.q.keep (Kp.of_chg hc (fun j hj hS hT' => by
    have := hT j hj hT'
    rcases hS with hS | hS
    · exact this.1 hS
    · exact this.2.1 hS)), ItsAt.keep h.ref (Kp.of_chg hc (fun j hj hS hT' => (hT j hj hT').1 hS)), h.desk.chg hc (fun j hj hT' => (hT j (h.desk.lt j hj) hT').2.2 hj), fun j hj => h.hi j (Nat.le_trans hc.size hj), h.out, h.snd⟩
/-- What a step leaves. -/
def PlE (w : World) (S : Nat → Prop) (B D : Nat) (K : Nat → Prop) (room last : Nat) (l : List ItT) (e : Ending) (w' : World) : Prop :=
  ∃ (S' : Nat → Prop) (f : Nat) (v' tv pv sv nv : Value) (L M : List Value), e = .returned (.tuple #[rqV room last v', .bool true]) ∧ Sit w' S' B D ⟨room, f, last, l⟩ v' tv pv sv nv L M ∧ (∀ j, S' j → S j) ∧ Chg w w' (fun j => j = B ∨ K j) ∧ ∀ j, DeskK D tv pv sv nv L M j → K j ∨ w.heap.size ≤ j
/-- The three boxes that plays lays at first. -/
theorem boxes3 {w : World} {a b c : Array Value} {t u : TypeId} : let W := ((w.alloc (.cells a t)).alloc (.cells b u)).alloc (.cells c t)
    (W.heap[w.heap.size]? = some (.cells a t (0, 0)) ∧ W.heap[w.heap.size + 1]? = some (.cells b u (0, 0)) ∧ W.heap[w.heap.size + 1 + 1]? = some (.cells c t (0, 0))) ∧ Below w.heap.size w W ∧ W.heap.size = w.heap.size + 1 + 1 + 1 := by
  refine ⟨⟨new_old (new_old (heap_alloc_new _ _) _) _, new_old (heap_new' (by simp)) _, heap_new' (by simp)⟩, (((Below.refl _ _).alloc (Nat.le_refl _) _).alloc (by simp) _).alloc (by simp; omega) _, by simp⟩
end Go.Proofs.Ytlidkieljiebiab
