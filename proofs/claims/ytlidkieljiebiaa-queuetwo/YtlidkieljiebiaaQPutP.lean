import Derived.Test.YtlidkieljiebiaaQPlayB
namespace Go.Proofs.Ytlidkieljiebiaa
open Go.RowKit
set_option linter.unusedVariables false
set_option linter.unusedSimpArgs false

/-- A cell is written anywhere: a row stays a row. -/
theorem row_or {w : World} {e sz n k i : Nat} {t : Value} {xs : List Value} {x : Value} (h : w.ownsRow 0 e sz t n xs) : ∃ ys, (w.setCell ⟨k, i, none⟩ x).ownsRow 0 e sz t n ys := by
  by_cases hk : t.ownBlock = some k
  · rcases h.2 with ⟨rfl, _⟩ | ⟨g, cap, cur, rfl, _⟩
    · cases hk
    · cases hk
      exact ⟨_, row_set h⟩
  · exact ⟨xs, row_chg h (Chg.set w ⟨k, i, none⟩ x) (fun j hj e => hk (by have e : j = k := e; rw [← e]; exact hj))⟩
theorem Rws.set {w : World} {e sz tS k i f : Nat} {sv x : Value} {L : List Value} {cur : Array Value} (h : Rws w e sz tS sv L) (hk : w.heap[k]? = some (.cells cur f (0, 0))) (hf : f ≠ tS) : Rws (w.setCell ⟨k, i, none⟩ x) e sz tS sv L :=
  ⟨row_chg h.row (Chg.set w ⟨k, i, none⟩ x) (fun j hj e => by
    have e : j = k := e
    obtain ⟨c, hc⟩ := row_kind h.row j hj
    exact kind_ne hk hc hf e.symm), fun j t ht => by
    obtain ⟨k', n, c, xs, rfl, hr⟩ := h.each j t ht
    obtain ⟨ys, hy⟩ := row_or (k := k) (i := i) (x := x) hr
    exact ⟨k', n, c, ys, rfl, hy⟩, h.apart⟩
theorem DeskAt.set {w : World} {D k i f : Nat} {tv pv sv nv x : Value} {L M : List Value} {cur : Array Value} (h : DeskAt w D tv pv sv nv L M) (hk : w.heap[k]? = some (.cells cur f (0, 0))) (h1 : f ≠ 72) (h2 : f ≠ 29) (h3 : f ≠ 92) : DeskAt (w.setCell ⟨k, i, none⟩ x) D tv pv sv nv L M :=
  ⟨by rw [(Chg.set w ⟨k, i, none⟩ x).block D (lt_of_blk h.box) (fun e => by have e : D = k := e; exact kind_ne hk h.box h1 e.symm)]; exact h.box, by
    obtain ⟨n, xs, hr⟩ := h.tv
    exact ⟨n, row_or hr⟩, by
    obtain ⟨n, xs, hr⟩ := h.pv
    exact ⟨n, row_or hr⟩, h.ts.set hk h2, h.ns.set hk h3⟩
theorem Sit.set {w : World} {S : Nat → Prop} {B D k i f : Nat} {Q : QuT} {v tv pv sv nv x : Value} {L M : List Value} {cur : Array Value} (h : Sit w S B D Q v tv pv sv nv L M) (hK : DeskK D tv pv sv nv L M k) (hk : w.heap[k]? = some (.cells cur f (0, 0))) (h1 : f ≠ 72) (h2 : f ≠ 29) (h3 : f ≠ 92) : Sit (w.setCell ⟨k, i, none⟩ x) S B D Q v tv pv sv nv L M := by
  have hc := Chg.set w ⟨k, i, none⟩ x
  have ho := h.out k hK
  exact ⟨h.q.keep (Kp.of_chg hc (fun j _ hS e => by
    have e : j = k := e
    rw [e] at hS
    exact hS.elim ho.1 ho.2)), ItsAt.keep h.ref (Kp.of_chg hc (fun j _ hS e => by have e : j = k := e; rw [e] at hS; exact ho.1 hS)), h.desk.set hk h1 h2 h3, fun j hj => h.hi j (Nat.le_trans hc.size hj), h.out, h.snd⟩
theorem row_has {w : World} {e sz n k c i : Nat} {xs : List Value} (h : w.ownsRow 0 e sz (.slice (some ⟨k, 0, none⟩) n c) n xs) (hi : i < n * sz) : ∃ y cur, w.cell? ⟨k, i, none⟩ = some y ∧ w.heap[k]? = some (.cells cur e (0, 0)) := by
  rcases h.2 with ⟨h0, _⟩ | ⟨g, cap, cur, hv, hb, hg, h1, h2, h3, h4⟩
  · cases h0
  · cases hv
    have hl := h.1
    have hx : cur[i]? = some (cur[i]'(by have := Nat.mul_le_mul_right sz h1; omega)) := Array.getElem?_eq_getElem _
    exact ⟨cur[i]'(by have := Nat.mul_le_mul_right sz h1; omega), cur, by rw [cell_blkD hg]; exact hx, hg⟩
/-- A change's tags at the desk. -/
def TgRow (L : List Value) (u : Value) : Prop := u = .slice none 0 0 ∨ ∃ k m c, (Value.slice (some ⟨k, 0, none⟩) (m + 1) c) ∈ L ∧ u = .slice (some ⟨k, 0, none⟩) m c
structure Spl (w : World) (S : Nat → Prop) (B D gm n c : Nat) (Q : QuT) (v pv sv nv : Value) (L M : List Value) : Prop where
  sit : Sit w S B D Q v (.slice (some ⟨gm, 0, none⟩) n c) pv sv nv L M
  at4 : ∀ i, i < n → ∃ u, w.cell? ⟨gm, i * 5 + 4, none⟩ = some u ∧ TgRow L u
theorem Spl.mrow {w : World} {S : Nat → Prop} {B D gm n c : Nat} {Q : QuT} {v pv sv nv : Value} {L M : List Value} (h : Spl w S B D gm n c Q v pv sv nv L M) : ∃ xs, w.ownsRow 0 88 5 (.slice (some ⟨gm, 0, none⟩) n c) n xs := by
  obtain ⟨m, xs, hr⟩ := h.sit.desk.tv
  rcases hr.2 with ⟨h0, _⟩ | ⟨g, cap, cur, hv, _⟩
  · cases h0
  · cases hv
    exact ⟨xs, hr⟩
theorem Spl.trow {w : World} {S : Nat → Prop} {B D gm n c : Nat} {Q : QuT} {v pv sv nv : Value} {L M : List Value} (h : Spl w S B D gm n c Q v pv sv nv L M) {k m e : Nat} (hm : (Value.slice (some ⟨k, 0, none⟩) (m + 1) e) ∈ L) : ∃ xs, w.ownsRow 0 3 1 (.slice (some ⟨k, 0, none⟩) (m + 1) e) (m + 1) xs := by
  obtain ⟨i, hi⟩ := List.getElem?_of_mem hm
  obtain ⟨_, _, _, xs, he, hr⟩ := h.sit.desk.ts.each i _ hi
  cases he
  exact ⟨xs, hr⟩
theorem Spl.place {w : World} {S : Nat → Prop} {B D gm n c : Nat} {Q : QuT} {v pv sv nv x : Value} {L M : List Value} (h : Spl w S B D gm n c Q v pv sv nv L M) {i : Nat} : Spl (w.setCell ⟨gm, i * 5 + 1, none⟩ x) S B D gm n c Q v pv sv nv L M ∧ Chg w (w.setCell ⟨gm, i * 5 + 1, none⟩ x) (DeskK D (.slice (some ⟨gm, 0, none⟩) n c) pv sv nv L M) := by
  obtain ⟨xs, hr⟩ := h.mrow
  obtain ⟨cur, hg⟩ := row_kind hr gm rfl
  refine ⟨⟨h.sit.set (.inr (.inl rfl)) hg (by decide) (by decide) (by decide), fun j hj => ?_⟩, (Chg.set w ⟨gm, i * 5 + 1, none⟩ x).mono fun j _ e => by have e : j = gm := e; rw [e]; exact .inr (.inl rfl)⟩
  obtain ⟨u, hu, ht⟩ := h.at4 j hj
  exact ⟨u, by rw [cell_neq (by omega)]; exact hu, ht⟩
theorem Spl.tag {w : World} {S : Nat → Prop} {B D gm n c : Nat} {Q : QuT} {v pv sv nv x : Value} {L M : List Value} (h : Spl w S B D gm n c Q v pv sv nv L M) {i k m e : Nat} (hm : (Value.slice (some ⟨k, 0, none⟩) (m + 1) e) ∈ L) : Spl (w.setCell ⟨k, i, none⟩ x) S B D gm n c Q v pv sv nv L M ∧ Chg w (w.setCell ⟨k, i, none⟩ x) (DeskK D (.slice (some ⟨gm, 0, none⟩) n c) pv sv nv L M) := by
  obtain ⟨xs, hr⟩ := h.trow hm
  obtain ⟨cur, hg⟩ := row_kind hr k rfl
  obtain ⟨ys, hr2⟩ := h.mrow
  obtain ⟨cur2, hg2⟩ := row_kind hr2 gm rfl
  have hK : DeskK D (.slice (some ⟨gm, 0, none⟩) n c) pv sv nv L M k := .inr (.inr (.inr (.inr (.inr (.inl ⟨_, hm, rfl⟩)))))
  have hne : k ≠ gm := kind_ne hg hg2 (by decide)
  refine ⟨⟨h.sit.set hK hg (by decide) (by decide) (by decide), fun j hj => ?_⟩, (Chg.set w ⟨k, i, none⟩ x).mono fun j _ e => by have e : j = k := e; rw [e]; exact hK⟩
  obtain ⟨u, hu, ht⟩ := h.at4 j hj
  exact ⟨u, by rw [cellN (by omega)]; exact hu, ht⟩
end Go.Proofs.Ytlidkieljiebiaa
namespace Go.Proofs.Ytlidkieljiebiaa
open Go.RowKit
set_option linter.unusedVariables false
set_option linter.unusedSimpArgs false

def QuT.putL (Q : QuT) (st : Int) (l : List TgT) : Nat × List ItT := if Q.putC st l = 0 then (st.toNat, Q.l ++ [⟨st, Q.last, false, l, []⟩]) else (Q.last, Q.l)
theorem putL_snd {Q : QuT} (h : Snd Q.last Q.l) (st : Int) (l : List TgT) : Snd (Q.putL st l).1 (Q.putL st l).2 := by
  unfold QuT.putL
  by_cases hc : Q.putC st l = 0
  · rw [if_pos hc]
    obtain ⟨g1, g2, g3, g4, g5⟩ := putC_ok hc
    exact h.put g1 g3
  · rw [if_neg hc]
    exact h
theorem refPut_l (Q : QuT) (st : Int) (v vl : Value) (l : List TgT) (w : World) (S P : Nat → Prop) (h : ItsAt w S v Q.l) (hl : TgsAt w P vl l) (hs : TgsSmall l) (hf : Q.l.length ≤ Q.room) (hr : Q.room ≤ 32) (hsm : ∀ t ∈ Q.l, t.Small) (hhi : ∀ j, w.heap.size ≤ j → S j) :
    Calls Try.prog 49 #[rqV Q.room Q.last v, .int .i64 st, vl] w fun e w' => ∃ a c, e = .returned (.tuple #[rqV Q.room (Q.putL st l).1 (.slice a (Q.putL st l).2.length c), .int .i64 (Q.putC st l)]) ∧ ItsAt w' S (.slice a (Q.putL st l).2.length c) (Q.putL st l).2 ∧ Below w.heap.size w w' := by
  by_cases hc : Q.putC st l = 0
  · obtain ⟨g1, g2, g3, g4, g5⟩ := putC_ok hc
    refine (refPut_ok Q st v vl l w S P h hl hs hf hr hc hsm).mono fun e w' ⟨v', he, hi, hb⟩ => ?_
    have hp : Q.putL st l = (st.toNat, Q.l ++ [⟨st, Q.last, false, l, []⟩]) := by unfold QuT.putL; rw [if_pos hc]
    rw [hp, hc]
    obtain ⟨a, c, hv, _⟩ := RowAt.form hi
    subst hv
    have hst : ((st.toNat : Nat) : Int) = st := by omega
    exact ⟨a, c, by rw [he]; show _ = Ending.returned (.tuple #[rqV Q.room ((st.toNat : Nat) : Int) _, _]); rw [hst], its_mono hi (fun j _ hj => hj.elim id (fun hj => hhi j hj)), hb⟩
  · refine (refPut_no Q st v vl l w S P h hl hs hf hr hc).mono fun e w' ⟨he, hb⟩ => ?_
    have hp : Q.putL st l = (Q.last, Q.l) := by unfold QuT.putL; rw [if_neg hc]
    rw [hp]
    obtain ⟨a, c, hv, _⟩ := RowAt.form h
    subst hv
    exact ⟨a, c, he, ItsAt.keep h (Kp.of_below hb _), hb⟩
theorem put_l (b : Nat) (Q : QuT) (st : Int) (v : Value) (l : List TgT) (w : World) (S P : Nat → Prop) (h : QueueAt w S b 0 Q) (hv : TgsAt w P v l) (hs : TgsSmall l) (hPb : ¬ P b) (hSn : ∀ j, w.heap.size ≤ j → S j) :
    Calls Try.prog 12 #[.pointer (some ⟨b, 0, none⟩), .int .i64 st, v] w fun e w' => e = .returned (.int .i64 (Q.putC st l)) ∧ (∃ f, QueueAt w' S b 0 ⟨Q.room, f, (Q.putL st l).1, (Q.putL st l).2⟩) ∧ Chg w w' (fun j => j = b) :=
  (put_some b Q st v l w S P h hv hs hPb hSn).mono fun e w' ⟨he, h1, h2, hc⟩ => by
    refine ⟨he, ?_, hc⟩
    by_cases hz : Q.putC st l = 0
    · have hp : Q.putL st l = (st.toNat, Q.l ++ [⟨st, Q.last, false, l, []⟩]) := by unfold QuT.putL; rw [if_pos hz]
      rw [hp]
      exact ⟨_, h2 hz⟩
    · have hp : Q.putL st l = (Q.last, Q.l) := by unfold QuT.putL; rw [if_neg hz]
      rw [hp]
      exact ⟨_, h1 hz⟩
/-- The desk is laid anew: its new blocks are no longer the queue's. -/
theorem its_twin {w w' : World} {S K K' : Nat → Prop} {v : Value} {l : List ItT} (h : ItsAt w S v l) (hK : ∀ j, K j → ¬ S j) (hc : Chg w w' K) (hn : ∀ j, K' j → K j ∨ w.heap.size ≤ j) : ItsAt w' (fun j => S j ∧ ¬ K' j) v l :=
  ItsAt.keep (its_mono h (fun j hj hS => ⟨hS, fun hk => (hn j hk).elim (fun hh => hK j hh hS) (fun hh => by omega)⟩)) (Kp.of_chg hc (fun j _ hS e => hK j e hS.1))
theorem Sit.twin {w w' : World} {S : Nat → Prop} {B D : Nat} {Q : QuT} {v tv pv sv nv tv' pv' sv' nv' : Value} {L M L' M' : List Value} (h : Sit w S B D Q v tv pv sv nv L M) (hd : DeskAt w' D tv' pv' sv' nv' L' M') (hc : Chg w w' (DeskK D tv pv sv nv L M)) (hn : ∀ j, DeskK D tv' pv' sv' nv' L' M' j → DeskK D tv pv sv nv L M j ∨ w.heap.size ≤ j) : Sit w' (fun j => S j ∧ ¬ DeskK D tv' pv' sv' nv' L' M' j) B D Q v tv' pv' sv' nv' L' M' := by
  have hs : ∀ j, j < w.heap.size → S j → S j ∧ ¬ DeskK D tv' pv' sv' nv' L' M' j := fun j hj hS => ⟨hS, fun hk => (hn j hk).elim (fun hh => (h.out j hh).1 hS) (fun hh => by omega)⟩
  exact ⟨(h.q.mono hs (fun hB => h.q.out hB.1)).keep (Kp.of_chg hc (fun j _ hS e => hS.elim (fun hS => (h.out j e).1 hS.1) (fun hS => (h.out j e).2 hS))), its_twin h.ref (fun j hj => (h.out j hj).1) hc hn, hd, fun j hj => ⟨h.hi j (Nat.le_trans hc.size hj), fun hk => by have := hd.lt j hk; omega⟩, fun j hj => ⟨fun hh => hh.2 hj, (hn j hj).elim (fun hh => (h.out j hh).2) (fun hh e => by have := h.q.lt; omega)⟩, h.snd⟩
theorem HandT.keep {w w' : World} {mv : Value} {l : List TgT} {L us : List Value} {T : Nat → Prop} (h : HandT w mv l L us) (hc : Chg w w' T) (h1 : ∀ k, mv.ownBlock = some k → ¬ T k) (h2 : ∀ t ∈ L, ∀ k, t.ownBlock = some k → ¬ T k) : HandT w' mv l L us :=
  ⟨row_chg h.row hc h1, h.len, h.le, fun i t r u ht hr hu => by
    have he := h.each i t r u ht hr hu
    exact ⟨he.eq, row_chg he.row hc (h2 r (List.mem_of_getElem? hr))⟩⟩
theorem Spl.of {w : World} {S : Nat → Prop} {B D gm c : Nat} {Q : QuT} {v pv sv nv : Value} {l : List TgT} {L M us : List Value} (h : Sit w S B D Q v (.slice (some ⟨gm, 0, none⟩) (l.length + 1) c) pv sv nv L M) (hh : HandT w (.slice (some ⟨gm, 0, none⟩) (l.length + 1) c) l L us) : Spl w S B D gm (l.length + 1) c Q v pv sv nv L M := by
  refine ⟨h, fun i hi => ?_⟩
  obtain ⟨g, c', hv, hc, hg, hx, hend⟩ := hh.cells
  cases hv
  by_cases he : i = l.length
  · subst he
    exact ⟨_, hend 4 _ rfl, .inl rfl⟩
  · have hl : i < l.length := by omega
    have ht : l[i]? = some l[i] := List.getElem?_eq_getElem _
    have hr : L[i]? = some (L[i]'(by have := hh.le; omega)) := List.getElem?_eq_getElem _
    have hu : us[i]? = some (us[i]'(by have := hh.len; omega)) := List.getElem?_eq_getElem _
    obtain ⟨k, c2, e1, e2⟩ := (hh.each i _ _ _ ht hr hu).eq
    refine ⟨_, hx i _ _ ht hu 4 _ rfl, .inr ⟨k, _, c2, ?_, e2⟩⟩
    rw [← e1]
    exact List.mem_of_getElem? hr
end Go.Proofs.Ytlidkieljiebiaa
