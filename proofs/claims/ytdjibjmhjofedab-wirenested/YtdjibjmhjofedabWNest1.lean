/-
  WireNested: a stream beside boxes, by memory alone.
-/
import Derived.Test.YtdjibjmhjofedabWFindsP
import Derived.Test.YtdjibjmhjofedabWRangeN
namespace Go.Proofs.Ytdjibjmhjofedab
open Go.RowKit
set_option linter.unusedVariables false

theorem dec_count (xs : List Int) : (dec xs).1.length ≤ xs.length ∧ (dec xs).2.1 ≤ xs.length := by
  induction h : xs.length using Nat.strongRecOn generalizing xs with
  | _ n ih =>
    rcases fcode_cases xs with h0 | h1 | h2
    · have hl := (fcode_ok h0).2.1
      have := ih _ (by rw [← h, List.length_drop]; omega) (xs.drop (14 + w4 xs 2)) rfl
      rw [List.length_drop] at this
      rw [dec_body h0]
      have e1 := this.1
      have e2 := this.2
      refine ⟨?_, ?_⟩
      · show (List.length _) + 1 ≤ n
        refine Nat.le_trans (Nat.succ_le_succ e1) ?_
        omega
      · refine Nat.le_trans e2 ?_
        omega
    · rw [dec_stop h1]; exact ⟨Nat.zero_le _, Nat.zero_le _⟩
    · have hp : 0 < xs.length := List.length_pos_iff.2 (by rintro rfl; cases h2)
      have := ih _ (by rw [← h, List.length_drop]; omega) (xs.drop 1) rfl
      rw [List.length_drop] at this
      rw [dec_skip h2]
      have e1 := this.1
      have e2 := this.2
      refine ⟨Nat.le_trans e1 (by omega), ?_⟩
      refine Nat.le_trans (Nat.succ_le_succ e2) ?_
      omega

/-- A stream that was fed P and gave m bodies away; boxes; what lay before. -/
structure Ne (W0 : World) (sb : Nat) (rv fv : Value) (P : List Int) (m : Nat) (fs : List (Value × List Int)) (bs : List (Nat × Value × TypeId)) (W : World) : Prop where
  st : St W sb rv fv (P.drop (dec P).2.2) fs (dec P).2.1
  all : (dec P).1.drop m = fs.map (·.2)
  le : m ≤ (dec P).1.length
  new : ∀ b, (b = sb ∨ rv.ownBlock = some b ∨ fv.ownBlock = some b) → W0.heap.size ≤ b
  bel : Below W0.heap.size W0 W
  box : ∀ q ∈ bs, W.heap[q.1]? = some (.cells #[q.2.1] q.2.2 (0, 0))
  kind : ∀ q ∈ bs, q.2.2 ≠ 52 ∧ q.2.2 ≠ 22 ∧ q.2.2 ≠ 5 ∧ W0.heap.size ≤ q.1

variable {W0 W W' : World} {sb m : Nat} {rv fv rv' fv' : Value} {P ys : List Int} {fs gs : List (Value × List Int)} {bs : List (Nat × Value × TypeId)}

theorem Ne.few (h : Ne W0 sb rv fv P m fs bs W) : fs.length + m = (dec P).1.length ∧ (dec P).1.length ≤ P.length ∧ (dec P).2.1 ≤ P.length := by
  have h1 := congrArg List.length h.all
  rw [List.length_drop, List.length_map] at h1
  have := h.le
  exact ⟨by omega, dec_count P⟩

theorem Ne.notbox (h : Ne W0 sb rv fv P m fs bs W) {q : Nat × Value × TypeId} (hq : q ∈ bs) : ¬ (q.1 = sb ∨ rv.ownBlock = some q.1 ∨ fv.ownBlock = some q.1) ∧ ∀ p ∈ fs, p.1.ownBlock ≠ some q.1 := by
  obtain ⟨q1, q2, q3⟩ := q
  have hb := h.box _ hq
  obtain ⟨k1, k2, k3, _⟩ := h.kind _ hq
  dsimp only at hb k1 k2 k3 ⊢
  refine ⟨fun e => ?_, fun p hp e => ?_⟩
  · rcases e with e | e | e
    · rw [e, h.st.blk] at hb; cases hb
    · obtain ⟨_, _, cur, hc⟩ := owns_kind h.st.room _ e
      rw [hc] at hb; cases hb; exact k3 rfl
    · obtain ⟨_, cur, hc⟩ := h.st.fnd.lt _ e
      rw [hc] at hb; cases hb; exact k2 rfl
  · obtain ⟨_, _, cur, hc⟩ := owns_kind (h.st.each p hp).1 _ e
    rw [hc] at hb; cases hb; exact k3 rfl

/-- Whatever turns other blocks. -/
theorem Ne.fr {S : Nat → Prop} (h : Ne W0 sb rv fv P m fs bs W) (hf : Fr S W W') (hS : ∀ b o, S b → W.heap[b]? = some o → o.isCells = false) (hn : ∀ b, S b → W0.heap.size ≤ b) : Ne W0 sb rv fv P m fs bs W' := by
  have no : ∀ {b : Nat} {cur : Array Value} {e : TypeId} {z : Nat × Nat}, W.heap[b]? = some (.cells cur e z) → ¬ S b := fun hb hs => by
    have := hS _ _ hs hb
    cases this
  have ho : ∀ {v : Value} {n base : Nat} {e : TypeId} {vals : List Value}, W.ownsRow base e 1 v n vals → ∀ b, v.ownBlock = some b → ¬ S b := fun hv b hb => by
    obtain ⟨_, _, cur, hc⟩ := owns_kind hv b hb
    exact no hc
  exact ⟨h.st.fr hf (no h.st.blk) (ho h.st.room) (fun b hb => by obtain ⟨_, cur, hc⟩ := h.st.fnd.lt b hb; exact no hc) (fun p hp => ho (h.st.each p hp).1), h.all, h.le, h.new, h.bel.trans (hf.below _ h.bel.size hn),
    fun q hq => (hf.block _ (lt_of_blk (h.box q hq)) (no (h.box q hq))).trans (h.box q hq), h.kind⟩
theorem Ne.below (h : Ne W0 sb rv fv P m fs bs W) (hb : Below W.heap.size W W') : Ne W0 sb rv fv P m fs bs W' :=
  h.fr (Fr.of_below hb (fun _ => False)) (fun _ _ e => e.elim) (fun _ e => e.elim)
theorem Ne.grown {row : Option Nat} {B : Nat} (h : Ne W0 sb rv fv P m fs bs W) (hB : W0.heap.size ≤ B) (hg : W.grownBy W' row) (hr : ∀ r, row = some r → B ≤ r ∧ ∃ o : Obj, W.heap[r]? = some o ∧ o.isCells = false) : Ne W0 sb rv fv P m fs bs W' :=
  h.fr (Fr.of_grown hg) (fun b o e ho => by obtain ⟨_, o', ho', hc⟩ := hr b e; rw [ho] at ho'; cases ho'; exact hc) (fun b e => by have := (hr b e).1; omega)
theorem Ne.perm {bs' : List (Nat × Value × TypeId)} (h : Ne W0 sb rv fv P m fs bs W) (hp : ∀ q, q ∈ bs' → q ∈ bs) : Ne W0 sb rv fv P m fs bs' W :=
  ⟨h.st, h.all, h.le, h.new, h.bel, fun q hq => h.box q (hp q hq), fun q hq => h.kind q (hp q hq)⟩

theorem Ne.set {k : Nat} {u v : Value} {t : TypeId} (h : Ne W0 sb rv fv P m fs ((k, u, t) :: bs) W) (hd : ∀ q ∈ bs, q.1 ≠ k) : Ne W0 sb rv fv P m fs ((k, v, t) :: bs) (W.setCell ⟨k, 0, none⟩ v) := by
  have hb := h.notbox (.head _)
  have hf := Fr.of_setCell W ⟨k, 0, none⟩ v
  have hk := h.kind _ (.head _)
  refine ⟨h.st.fr hf (fun e => hb.1 (.inl e.symm)) (fun j hj e => hb.1 (.inr (.inl (by rw [show j = k from e] at hj; exact hj)))) (fun j hj e => hb.1 (.inr (.inr (by rw [show j = k from e] at hj; exact hj)))) (fun p hp j hj e => hb.2 p hp (by rw [show j = k from e] at hj; exact hj)), h.all, h.le, h.new, h.bel.trans (hf.below _ h.bel.size (fun j e => by rw [show j = k from e]; exact hk.2.2.2)), fun q hq => ?_, fun q hq => ?_⟩
  · rcases List.mem_cons.1 hq with rfl | hq
    · exact (set_blk (h.box _ (.head _)) 0 v).trans rfl
    · exact (hf.block _ (lt_of_blk (h.box q (.tail _ hq))) (hd q hq)).trans (h.box q (.tail _ hq))
  · rcases List.mem_cons.1 hq with rfl | hq
    · exact hk
    · exact h.kind q (.tail _ hq)

theorem Ne.alloc (h : Ne W0 sb rv fv P m fs bs W) (v : Value) (t : TypeId) (h1 : t ≠ 52) (h2 : t ≠ 22) (h3 : t ≠ 5) : Ne W0 sb rv fv P m fs ((W.heap.size, v, t) :: bs) (W.alloc (.cells #[v] t)) := by
  have h' := h.below ((Below.refl _ W).alloc (Nat.le_refl _) (.cells #[v] t))
  refine ⟨h'.st, h'.all, h'.le, h'.new, h'.bel, fun q hq => ?_, fun q hq => ?_⟩
  · rcases List.mem_cons.1 hq with rfl | hq
    · exact World.alloc_heap_new W _
    · exact h'.box q hq
  · rcases List.mem_cons.1 hq with rfl | hq
    · exact ⟨h1, h2, h3, h.bel.size⟩
    · exact h'.kind q hq

theorem Ne.took {p : Value × List Int} {rest : List (Value × List Int)} (h : Ne W0 sb rv fv P m (p :: rest) bs W) (ht : Took W sb rv fv (P.drop (dec P).2.2) (dec P).2.1 p rest W' fv') :
    Ne W0 sb rv fv' P (m + 1) rest bs W' ∧ (dec P).1[m]? = some p.2 ∧ KeepsOthers W W' := by
  have hm : (dec P).1[m]? = some p.2 := by
    have : ((dec P).1.drop m)[0]? = some p.2 := by rw [h.all]; rfl
    rwa [List.getElem?_drop] at this
  have hml : m < (dec P).1.length := (List.getElem?_eq_some_iff.1 hm).1
  refine ⟨⟨ht.st, ?_, hml, fun b e => ?_, h.bel.trans (ht.fr.below _ h.bel.size (fun b e => ?_)), fun q hq => ?_, h.kind⟩, hm, ht.fr.keeps (fun b o e ho => ?_)⟩
  · have : ((dec P).1.drop m).drop 1 = rest.map (·.2) := by rw [h.all]; rfl
    rwa [List.drop_drop] at this
  · rcases e with e | e | e
    · exact h.new b (.inl e)
    · exact h.new b (.inr (.inl e))
    · exact h.new b (.inr (.inr (ht.fv b e)))
  · rcases e with e | e
    · exact h.new b (.inl e)
    · exact h.new b (.inr (.inr e))
  · refine (ht.fr.block _ (lt_of_blk (h.box q hq)) (fun e => ?_)).trans (h.box q hq)
    rcases e with e | e
    · exact (h.notbox hq).1 (.inl e)
    · exact (h.notbox hq).1 (.inr (.inr e))
  · rcases e with e | e
    · subst e; rw [h.st.blk] at ho; cases ho; rfl
    · obtain ⟨_, cur, hc⟩ := h.st.fnd.lt _ e
      rw [hc] at ho; cases ho; rfl

theorem Ne.fed (h : Ne W0 sb rv fv P m fs bs W) (hF : Fed W sb rv fv (P.drop (dec P).2.2) fs (dec P).2.1 ys W' rv' fv' gs) : Ne W0 sb rv' fv' (P ++ ys) m (fs ++ gs) bs W' ∧ KeepsOthers W W' := by
  obtain ⟨e1, e2, e3⟩ := dec_fed P ys
  have own : ∀ b, (b = sb ∨ rv.ownBlock = some b ∨ fv.ownBlock = some b) → W0.heap.size ≤ b := h.new
  refine ⟨⟨by rw [e1, e3]; exact hF.st, ?_, by rw [e2, List.length_append]; have := h.le; omega, fun b e => ?_, h.bel.trans (hF.fr.below _ h.bel.size own), fun q hq => ?_, h.kind⟩, hF.fr.keeps (fun b o e ho => ?_)⟩
  · rw [e2, List.drop_append_of_le_length h.le, h.all, List.map_append, hF.bodies]
  · have hs := h.bel.size
    rcases e with e | e | e
    · exact own b (.inl e)
    · rcases hF.rvf b e with e | e
      · exact own b (.inr (.inl e))
      · omega
    · rcases hF.fvf b e with e | e
      · exact own b (.inr (.inr e))
      · omega
  · exact (hF.fr.block _ (lt_of_blk (h.box q hq)) (h.notbox hq).1).trans (h.box q hq)
  · rcases e with e | e | e
    · subst e; rw [h.st.blk] at ho; cases ho; rfl
    · obtain ⟨_, _, cur, hc⟩ := owns_kind h.st.room _ e
      rw [hc] at ho; cases ho; rfl
    · obtain ⟨_, cur, hc⟩ := h.st.fnd.lt _ e
      rw [hc] at ho; cases ho; rfl

theorem Ne.zero (hb : Below W0.heap.size W0 W) : Ne W0 W.heap.size (.slice none 0 0) (.slice none 0 0) [] 0 [] [] (W.alloc (.cells #[.slice none 0 0, .slice none 0 0, .int .i64 0] 52)) := by
  refine ⟨by rw [dec_nil]; exact St.zero W, by rw [dec_nil]; rfl, Nat.zero_le _, fun b e => ?_, hb.alloc hb.size _, (fun q hq => nomatch hq), (fun q hq => nomatch hq)⟩
  rcases e with e | e | e
  · rw [e]; exact hb.size
  · cases e
  · cases e

/-- Feed. -/
theorem ne_feed (h : Ne W0 sb rv fv P m fs bs W) (a : Option Addr) (c : Nat) (ys : List Int) (hby : Bys W a ys) (hyb : Byt ys) (hyc : ys.length ≤ c) (hcm : c ≤ maxLen) (hl : (P ++ ys).length ≤ 60000) :
    Calls Try.prog 27 #[.pointer (some ⟨sb, 0, none⟩), .slice a ys.length c] W fun e w' => (∃ v, e = .returned v) ∧ ∃ rv' fv' fs', Ne W0 sb rv' fv' (P ++ ys) m fs' bs w' ∧ KeepsOthers W w' := by
  obtain ⟨h1, h2, h3⟩ := h.few
  rw [List.length_append] at hl
  refine (feed_st sb _ c a rv fv _ ys fs W h.st (dec_left P) hby hyb (by omega) hyc hcm (by rw [List.length_drop]; omega) (by omega)).mono ?_
  rintro e w' ⟨hv, rv', fv', hs, hF⟩
  exact ⟨hv, rv', fv', _, h.fed hF⟩

/-- take. -/
theorem ne_take (h : Ne W0 sb rv fv P m fs bs W) :
    Calls Try.prog 44 #[.pointer (some ⟨sb, 0, none⟩)] W fun e w' => KeepsOthers W w' ∧
      ((e = .returned (.tuple #[.slice none 0 0, .bool false]) ∧ w' = W ∧ m = (dec P).1.length) ∨
      (∃ a n c xs fv' fs', e = .returned (.tuple #[.slice a n c, .bool true]) ∧ Ne W0 sb rv fv' P (m + 1) fs' bs w' ∧ w'.ownsRow 0 5 1 (.slice a n c) xs.length (bv xs) ∧ (dec P).1[m]? = some xs)) := by
  refine (take_st sb _ rv fv _ fs W h.st).mono ?_
  rintro e w' (⟨hd, rfl, rfl⟩ | ⟨p, rest, fv2, hd, rfl, ht⟩)
  · refine ⟨KeepsOthers.refl _, .inl ⟨rfl, rfl, ?_⟩⟩
    have := h.few.1
    rw [hd] at this
    simpa using this
  · subst hd
    obtain ⟨h1, h2, h3⟩ := h.took ht
    have ho := ht.own
    obtain ⟨a, nn, c, hp⟩ := owns_slice ho
    rw [hp] at ho
    exact ⟨h3, .inr ⟨a, nn, c, p.2, fv2, rest, by rw [hp], h1, ho, h2⟩⟩
end Go.Proofs.Ytdjibjmhjofedab
