/-
  heraldlaw10: plays, Collapse: the contracts in one piece, and the parts that are spoilt.
-/
import Derived.Test.YtlidkieljiebiaaQPutP
namespace Go.Proofs.Ytlidkieljiebiaa
open Go.RowKit
set_option linter.unusedVariables false
set_option linter.unusedSimpArgs false

/-- A part's nodes at the desk. -/
def NdRow (L : List Value) (u : Value) : Prop := u = .slice none 0 0 ∨ ∃ k m c, (Value.slice (some ⟨k, 0, none⟩) (m + 1) c) ∈ L ∧ u = .slice (some ⟨k, 0, none⟩) m c
structure SplP (w : World) (S : Nat → Prop) (B D gm n c : Nat) (Q : QuT) (v tv sv nv : Value) (L M : List Value) : Prop where
  sit : Sit w S B D Q v tv (.slice (some ⟨gm, 0, none⟩) n c) sv nv L M
  at4 : ∀ i, i < n → ∃ u, w.cell? ⟨gm, i * 5 + 4, none⟩ = some u ∧ NdRow M u
theorem SplP.mrow {w : World} {S : Nat → Prop} {B D gm n c : Nat} {Q : QuT} {v tv sv nv : Value} {L M : List Value} (h : SplP w S B D gm n c Q v tv sv nv L M) : ∃ xs, w.ownsRow 0 96 5 (.slice (some ⟨gm, 0, none⟩) n c) n xs := by
  obtain ⟨m, xs, hr⟩ := h.sit.desk.pv
  rcases hr.2 with ⟨h0, _⟩ | ⟨g, cap, cur, hv, _⟩
  · cases h0
  · cases hv
    exact ⟨xs, hr⟩
theorem SplP.trow {w : World} {S : Nat → Prop} {B D gm n c : Nat} {Q : QuT} {v tv sv nv : Value} {L M : List Value} (h : SplP w S B D gm n c Q v tv sv nv L M) {k m e : Nat} (hm : (Value.slice (some ⟨k, 0, none⟩) (m + 1) e) ∈ M) : ∃ xs, w.ownsRow 0 119 3 (.slice (some ⟨k, 0, none⟩) (m + 1) e) (m + 1) xs := by
  obtain ⟨i, hi⟩ := List.getElem?_of_mem hm
  obtain ⟨_, _, _, xs, he, hr⟩ := h.sit.desk.ns.each i _ hi
  cases he
  exact ⟨xs, hr⟩
theorem SplP.place {w : World} {S : Nat → Prop} {B D gm n c : Nat} {Q : QuT} {v tv sv nv x : Value} {L M : List Value} (h : SplP w S B D gm n c Q v tv sv nv L M) {i : Nat} : SplP (w.setCell ⟨gm, i * 5, none⟩ x) S B D gm n c Q v tv sv nv L M ∧ Chg w (w.setCell ⟨gm, i * 5, none⟩ x) (DeskK D tv (.slice (some ⟨gm, 0, none⟩) n c) sv nv L M) := by
  obtain ⟨xs, hr⟩ := h.mrow
  obtain ⟨cur, hg⟩ := row_kind hr gm rfl
  refine ⟨⟨h.sit.set (.inr (.inr (.inl rfl))) hg (by decide) (by decide) (by decide), fun j hj => ?_⟩, (Chg.set w ⟨gm, i * 5, none⟩ x).mono fun j _ e => by have e : j = gm := e; rw [e]; exact .inr (.inr (.inl rfl))⟩
  obtain ⟨u, hu, ht⟩ := h.at4 j hj
  exact ⟨u, by rw [cell_neq (by omega)]; exact hu, ht⟩
theorem SplP.tag {w : World} {S : Nat → Prop} {B D gm n c : Nat} {Q : QuT} {v tv sv nv x : Value} {L M : List Value} (h : SplP w S B D gm n c Q v tv sv nv L M) {i k m e : Nat} (hm : (Value.slice (some ⟨k, 0, none⟩) (m + 1) e) ∈ M) : SplP (w.setCell ⟨k, i, none⟩ x) S B D gm n c Q v tv sv nv L M ∧ Chg w (w.setCell ⟨k, i, none⟩ x) (DeskK D tv (.slice (some ⟨gm, 0, none⟩) n c) sv nv L M) := by
  obtain ⟨xs, hr⟩ := h.trow hm
  obtain ⟨cur, hg⟩ := row_kind hr k rfl
  obtain ⟨ys, hr2⟩ := h.mrow
  obtain ⟨cur2, hg2⟩ := row_kind hr2 gm rfl
  have hK : DeskK D tv (.slice (some ⟨gm, 0, none⟩) n c) sv nv L M k := .inr (.inr (.inr (.inr (.inr (.inr ⟨_, hm, rfl⟩)))))
  have hne : k ≠ gm := kind_ne hg hg2 (by decide)
  refine ⟨⟨h.sit.set hK hg (by decide) (by decide) (by decide), fun j hj => ?_⟩, (Chg.set w ⟨k, i, none⟩ x).mono fun j _ e => by have e : j = k := e; rw [e]; exact hK⟩
  obtain ⟨u, hu, ht⟩ := h.at4 j hj
  exact ⟨u, by rw [cellN (by omega)]; exact hu, ht⟩
def QuT.collL (Q : QuT) (st : Int) (l : List PaT) : Nat × List ItT := if Q.collC st l = 0 then (st.toNat, [⟨st, Q.begin, true, [], l⟩]) else (Q.last, Q.l)
theorem collL_snd {Q : QuT} (h : Snd Q.last Q.l) (st : Int) (l : List PaT) : Snd (Q.collL st l).1 (Q.collL st l).2 := by
  unfold QuT.collL
  by_cases hc : Q.collC st l = 0
  · rw [if_pos hc]
    obtain ⟨g1, g2, g3, g4⟩ := collC_ok hc
    exact h.coll (h.begin (room := Q.room) (first := Q.first)) g1 g3
  · rw [if_neg hc]
    exact h
theorem refColl_l (Q : QuT) (st : Int) (v vl : Value) (l : List PaT) (w : World) (S P : Nat → Prop) (h : ItsAt w S v Q.l) (hl : PasAt w P vl l) (hs : PasSmall l) (hf : Q.l.length ≤ Q.room) (hr : Q.room ≤ 32) (hsm : ∀ t ∈ Q.l, t.Small) (hhi : ∀ j, w.heap.size ≤ j → S j) :
    Calls Try.prog 52 #[rqV Q.room Q.last v, .int .i64 st, vl] w fun e w' => ∃ a c, e = .returned (.tuple #[rqV Q.room (Q.collL st l).1 (.slice a (Q.collL st l).2.length c), .int .i64 (Q.collC st l)]) ∧ ItsAt w' S (.slice a (Q.collL st l).2.length c) (Q.collL st l).2 ∧ Below w.heap.size w w' := by
  by_cases hc : Q.collC st l = 0
  · obtain ⟨g1, g2, g3, g4⟩ := collC_ok hc
    refine (refColl_ok Q st v vl l w S P h hl hs hf hr hc).mono fun e w' ⟨v', he, hi, hb⟩ => ?_
    have hp : Q.collL st l = (st.toNat, [⟨st, Q.begin, true, [], l⟩]) := by unfold QuT.collL; rw [if_pos hc]
    rw [hp, hc]
    obtain ⟨a, c, hv, _⟩ := RowAt.form hi
    subst hv
    have hst : ((st.toNat : Nat) : Int) = st := by omega
    exact ⟨a, c, by rw [he]; show _ = Ending.returned (.tuple #[rqV Q.room ((st.toNat : Nat) : Int) _, _]); rw [hst], its_mono hi (fun j _ hj => hhi j hj), hb⟩
  · refine (refColl_no Q st v vl l w S P h hl hs hf hr hc).mono fun e w' ⟨he, hb⟩ => ?_
    have hp : Q.collL st l = (Q.last, Q.l) := by unfold QuT.collL; rw [if_neg hc]
    rw [hp]
    obtain ⟨a, c, hv, _⟩ := RowAt.form h
    subst hv
    exact ⟨a, c, he, ItsAt.keep h (Kp.of_below hb _), hb⟩
theorem coll_l (b : Nat) (Q : QuT) (st : Int) (v : Value) (l : List PaT) (w : World) (S P : Nat → Prop) (h : QueueAt w S b 0 Q) (hv : PasAt w P v l) (hs : PasSmall l) (hPb : ¬ P b) (hSn : ∀ j, w.heap.size ≤ j → S j) :
    Calls Try.prog 15 #[.pointer (some ⟨b, 0, none⟩), .int .i64 st, v] w fun e w' => e = .returned (.int .i64 (Q.collC st l)) ∧ (∃ f, QueueAt w' S b 0 ⟨Q.room, f, (Q.collL st l).1, (Q.collL st l).2⟩) ∧ Chg w w' (fun j => j = b) :=
  (coll_some b Q st v l w S P h hv hs hPb hSn).mono fun e w' ⟨he, h1, h2, hc⟩ => by
    refine ⟨he, ?_, hc⟩
    by_cases hz : Q.collC st l = 0
    · have hp : Q.collL st l = (st.toNat, [⟨st, Q.begin, true, [], l⟩]) := by unfold QuT.collL; rw [if_pos hz]
      rw [hp]
      exact h2 hz
    · have hp : Q.collL st l = (Q.last, Q.l) := by unfold QuT.collL; rw [if_neg hz]
      rw [hp]
      exact ⟨_, h1 hz⟩
theorem HandP.keep {w w' : World} {mv : Value} {l : List PaT} {L us : List Value} {T : Nat → Prop} (h : HandP w mv l L us) (hc : Chg w w' T) (h1 : ∀ k, mv.ownBlock = some k → ¬ T k) (h2 : ∀ t ∈ L, ∀ k, t.ownBlock = some k → ¬ T k) : HandP w' mv l L us :=
  ⟨row_chg h.row hc h1, h.len, h.le, fun i t r u ht hr hu => by
    have he := h.each i t r u ht hr hu
    exact ⟨he.eq, row_chg he.row hc (h2 r (List.mem_of_getElem? hr))⟩⟩
theorem SplP.of {w : World} {S : Nat → Prop} {B D gm c : Nat} {Q : QuT} {v tv sv nv : Value} {l : List PaT} {L M us : List Value} (h : Sit w S B D Q v tv (.slice (some ⟨gm, 0, none⟩) (l.length + 1) c) sv nv L M) (hh : HandP w (.slice (some ⟨gm, 0, none⟩) (l.length + 1) c) l M us) : SplP w S B D gm (l.length + 1) c Q v tv sv nv L M := by
  refine ⟨h, fun i hi => ?_⟩
  obtain ⟨g, c', hv, hc, hg, hx, hend⟩ := hh.cells
  cases hv
  by_cases he : i = l.length
  · subst he
    exact ⟨_, hend 4 _ rfl, .inl rfl⟩
  · have hl : i < l.length := by omega
    have ht : l[i]? = some l[i] := List.getElem?_eq_getElem _
    have hr : M[i]? = some (M[i]'(by have := hh.le; omega)) := List.getElem?_eq_getElem _
    have hu : us[i]? = some (us[i]'(by have := hh.len; omega)) := List.getElem?_eq_getElem _
    obtain ⟨k, c2, e1, e2⟩ := (hh.each i _ _ _ ht hr hu).eq
    refine ⟨_, hx i _ _ ht hu 4 _ rfl, .inr ⟨k, _, c2, ?_, e2⟩⟩
    rw [← e1]
    exact List.mem_of_getElem? hr
end Go.Proofs.Ytlidkieljiebiaa
