/-
  queue: the law's own list of stamps.
-/
import Derived.Test.YtlidkieljiebiaaQDeq
import Derived.Test.YtlidkieljiebiaaQKnown
import Derived.Test.YtlidkieljiebiaaQSoundWalk
namespace Go.Proofs.Ytlidkieljiebiaa
open Go.RowKit
set_option linter.unusedVariables false
set_option linter.unusedSimpArgs false

abbrev stV (l : List ItT) : List Value := l.map fun t => .int .i64 t.st
/-- The queue's lists lie in S, a list of the law's own elsewhere. -/
structure ApartQ (w : World) (S : Nat → Prop) (B : Nat) (Q : QuT) (v : Value) : Prop where
  q : QueueAt w S B 0 Q
  hi : ∀ j, w.heap.size ≤ j → S j
  lo : ∀ k, v.ownBlock = some k → ¬ S k ∧ B < k
theorem ApartQ.chg {w w' : World} {S : Nat → Prop} {B : Nat} {Q Q' : QuT} {v : Value} (h : ApartQ w S B Q v) (hq : QueueAt w' S B 0 Q') (hs : w.heap.size ≤ w'.heap.size) : ApartQ w' S B Q' v := ⟨hq, fun j hj => h.hi j (Nat.le_trans hs hj), h.lo⟩
theorem ApartQ.below {w w' : World} {S : Nat → Prop} {B : Nat} {Q : QuT} {v : Value} (h : ApartQ w S B Q v) (hb : Below w.heap.size w w') : ApartQ w' S B Q v := h.chg (h.q.below hb) hb.size
theorem ApartQ.app {w w' : World} {S : Nat → Prop} {B : Nat} {Q : QuT} {v v' : Value} {L : List Value} {e : TypeId} (h : ApartQ w S B Q v) (hg : w.grownBy w' v.ownBlock) (hf : ∀ k, v'.ownBlock = some k → v.ownBlock = some k ∨ w.heap.size ≤ k) (hd : Deq w' e v' L) : ∃ S', ApartQ w' S' B Q v' := by
  have hc : Chg w w' (fun k => v.ownBlock = some k) := Chg.grown hg
  have hm : QueueAt w (fun j => S j ∧ v'.ownBlock ≠ some j) B 0 Q := h.q.mono (fun j hj hS => ⟨hS, fun e => by
    rcases hf j e with e | e
    · exact (h.lo j e).1 hS
    · omega⟩) (fun hB => h.q.out hB.1)
  refine ⟨fun j => S j ∧ v'.ownBlock ≠ some j, hm.keep (Kp.of_chg hc (fun j _ hj e => ?_)), fun j hj => ⟨h.hi j (Nat.le_trans hc.size hj), fun e => ?_⟩, fun k hk => ⟨fun hh => hh.2 hk, ?_⟩⟩
  · rcases hj with hj | rfl
    · exact (h.lo j e).1 hj.1
    · have := (h.lo _ e).2; omega
  · have := (hd.lt j e).1; omega
  · rcases hf k hk with e | e
    · exact (h.lo k e).2
    · exact Nat.lt_of_lt_of_le h.q.lt e
theorem ApartQ.fresh {w w' : World} {S : Nat → Prop} {B : Nat} {Q : QuT} {v v' : Value} (h : ApartQ w S B Q v) (hb : Below w.heap.size w w') (hf : ∀ k, v'.ownBlock = some k → w.heap.size ≤ k ∧ k < w'.heap.size) : ∃ S', ApartQ w' S' B Q v' := by
  have hm : QueueAt w (fun j => S j ∧ v'.ownBlock ≠ some j) B 0 Q := h.q.mono (fun j hj hS => ⟨hS, fun e => by have := hf j e; omega⟩) (fun hB => h.q.out hB.1)
  exact ⟨_, hm.below hb, fun j hj => ⟨h.hi j (Nat.le_trans hb.size hj), fun e => by have := hf j e; omega⟩, fun k hk => ⟨fun hh => hh.2 hk, Nat.lt_of_lt_of_le h.q.lt (hf k hk).1⟩⟩
theorem ApartQ.same {w : World} {S : Nat → Prop} {B : Nat} {Q : QuT} {v v' : Value} (h : ApartQ w S B Q v) (hf : v'.ownBlock = v.ownBlock) : ApartQ w S B Q v' := ⟨h.q, h.hi, fun k hk => h.lo k (by rw [← hf]; exact hk)⟩
theorem ApartQ.deq {w w' : World} {S : Nat → Prop} {B : Nat} {Q : QuT} {v : Value} {L : List Value} {e : TypeId} (h : ApartQ w S B Q v) (hd : Deq w e v L) (hc : Chg w w' (fun j => j = B)) : Deq w' e v L := hd.chg hc (fun k hk e => by have := (h.lo k hk).2; omega)
/-- Between two rounds. -/
structure OrdI (w0 : World) (B : Nat) (room : Int) (w : World) (Q : QuT) (v : Value) : Prop where
  q : ∃ S, ApartQ w S B Q v
  room : (Q.room : Int) = room
  deq : Deq w 3 v (stV Q.l)
  below : Below w0.heap.size w0 w
theorem OrdI.at {w0 w w' : World} {B : Nat} {room : Int} {Q : QuT} {v : Value} (h : OrdI w0 B room w Q v) (hb : Below w.heap.size w w') : OrdI w0 B room w' Q v := by
  obtain ⟨S, hS⟩ := h.q
  exact ⟨⟨S, hS.below hb⟩, h.room, h.deq.below hb, trans2 h.below hb⟩
/-- One more stamp behind. -/
theorem ord_app {w0 w w1 w2 : World} {S : Nat → Prop} {B : Nat} {room st : Int} {Q Q' : QuT} {v v' : Value} (h : ApartQ w S B Q' v) (hb : Below w.heap.size w w1) (hg : w1.grownBy w2 v.ownBlock) (hf : ∀ k, v'.ownBlock = some k → v.ownBlock = some k ∨ w1.heap.size ≤ k) (hd : Deq w2 3 v' (stV Q.l ++ [.int .i64 st])) (hl : stV Q.l ++ [.int .i64 st] = stV Q'.l) (hr : (Q'.room : Int) = room) (hB : w0.heap.size = B) (h0 : Below w0.heap.size w0 w) (hv : ∀ k, v.ownBlock = some k → B < k) :
    ∃ a c, v' = .slice a Q'.l.length c ∧ Q'.l.length ≤ c ∧ OrdI w0 B room w2 Q' (.slice a Q'.l.length c) := by
  rw [hl] at hd
  obtain ⟨a, c, rfl, hc⟩ := Deq.form hd
  rw [List.length_map] at hd hc hf ⊢
  have h1 := h.below hb
  obtain ⟨S', hS'⟩ := h1.app hg hf hd
  refine ⟨a, c, rfl, hc, ⟨S', hS'⟩, hr, hd, ?_⟩
  have h2 := trans2 h0 hb
  have hc2 := Chg.grown hg
  exact ⟨hc2.os.trans h2.os, hc2.tape.trans h2.tape, hc2.output.trans h2.output, Nat.le_trans h2.size hc2.size, fun k hk => (hc2.block k (Nat.lt_of_lt_of_le hk h2.size) (fun e => by have := hv k e; omega)).trans (h2.block k hk)⟩
set_option maxHeartbeats 1600000 in
theorem tagged_law (v : Value) (l : List TgT) (w : World) (S : Nat → Prop) (h : TgsAt w S v l) (hl : l.length ≤ MaxRow) :
    Calls Try.prog 14 #[v] w fun e w' => e = .returned (.bool (!tagless l)) ∧ w' = w := by
  obtain ⟨a, c, rfl, hc⟩ := RowAt.form h
  obtain ⟨n, hn⟩ : ∃ n, l.length = n := ⟨_, rfl⟩
  rw [hn] at h hl ⊢
  have HN : Hid (l.length = n) := hn
  have H1 : Hid (TgsAt w S (.slice a n c) l) := h
  have hn1 : n ≤ 140737488355328 := hl
  clear h hn hl hc
  go_enter Try.func14, Try.ntmps14
  go_wp2_with fail
  go_loopw [3] (fun i wr => ∃ q : Nat, i = .int .i64 q ∧ q ≤ n ∧ wr = w ∧ Hid (∀ (i : Nat) (t : TgT), i < q → l[i]? = some t → t.tags ≠ [])) (fun i _ => n - (intOf i).toNat)
  case atStart => exact ⟨0, rfl, Nat.zero_le _, rfl, fun i t hi => absurd hi (Nat.not_lt_zero _)⟩
  case round =>
    obtain ⟨q, rfl, hq, hw, HT⟩ := hrel
    subst hw
    by_cases hlt : q < n
    · have hqi : (q : Int) < (n : Int) := by omega
      obtain ⟨x, hx⟩ : ∃ x, l[q]? = some x := ⟨l[q]'(by rw [HN.out]; exact hlt), List.getElem?_eq_getElem _⟩
      obtain ⟨b, o, rfl, _, _, u, e1⟩ := RowAt.get H1.out hx
      obtain ⟨ta, tc, rfl, _⟩ := RowAt.form e1.tags
      have x4 := e1.cu
      obtain ⟨tn, htn⟩ : ∃ z, x.tags.length = z := ⟨_, rfl⟩
      rw [htn] at x4
      by_cases h0 : tn = 0
      · subst h0
        have HG : Hid (tagless l = true) := tagless_at hx (List.eq_nil_of_length_eq_zero htn)
        clear hx e1 htn
        go_wp2_with fail
        go_ret
        exact ⟨by rw [HG.out]; rfl, rfl⟩
      · have hz : ((tn : Int) == 0) = false := by simp; omega
        have HT2 : Hid (∀ (i : Nat) (t : TgT), i < q + 1 → l[i]? = some t → t.tags ≠ []) := fun i t hi hit => by
          by_cases he : i = q
          · subst he
            rw [hx] at hit
            cases hit
            intro e
            rw [e] at htn
            exact h0 htn.symm
          · exact HT.out i t (by omega) hit
        clear hx e1 htn h0
        go_wp2_with fail
        go_roundw
        case rel => exact ⟨q + 1, by go_num, by omega, by trivial, HT2⟩
        case measure => simp [intOf]; omega
    · obtain rfl : q = n := by omega
      have hge : ¬ (q : Int) < (q : Int) := by omega
      go_wp2_with fail
      go_ret
      exact ⟨by rw [tagless_not (fun i t hi hit => HT.out i t (by rw [← HN.out]; exact hi) hit)]; rfl, rfl⟩
/-- Why a Put is refused. -/
theorem put_no {Q : QuT} {st : Int} {l : List TgT} (h : Q.putC st l ≠ 0) : st ≤ Q.last ∨ ((Q.last : Int) < st ∧ l.length = 0) ∨ ((Q.last : Int) < st ∧ l.length ≠ 0 ∧ 2147483647 < st) ∨ ((Q.last : Int) < st ∧ l.length ≠ 0 ∧ st ≤ 2147483647 ∧ Q.l.length = Q.room) ∨ ((Q.last : Int) < st ∧ l.length ≠ 0 ∧ st ≤ 2147483647 ∧ Q.l.length ≠ Q.room ∧ tagless l = true) := by
  by_cases h1 : st ≤ Q.last
  · exact .inl h1
  · have h1' : (Q.last : Int) < st := by omega
    by_cases h2 : l.length = 0
    · exact .inr (.inl ⟨h1', h2⟩)
    · by_cases h3 : 2147483647 < st
      · exact .inr (.inr (.inl ⟨h1', h2, h3⟩))
      · have h3' : st ≤ 2147483647 := by omega
        by_cases h4 : Q.l.length = Q.room
        · exact .inr (.inr (.inr (.inl ⟨h1', h2, h3', h4⟩)))
        · refine .inr (.inr (.inr (.inr ⟨h1', h2, h3', h4, ?_⟩)))
          cases ht : tagless l with
          | true => rfl
          | false =>
            exfalso
            apply h
            have hne : l ≠ [] := fun e => h2 (by rw [e]; rfl)
            unfold QuT.putC mayQ
            simp [ht, hne, h3, h1, h4]
theorem coll_no {Q : QuT} {st : Int} {l : List PaT} (h : Q.collC st l ≠ 0) (hr : Q.room ≠ 0) : st ≤ Q.last ∨ ((Q.last : Int) < st ∧ l.length = 0) ∨ ((Q.last : Int) < st ∧ l.length ≠ 0 ∧ 2147483647 < st) := by
  by_cases h1 : st ≤ Q.last
  · exact .inl h1
  · have h1' : (Q.last : Int) < st := by omega
    by_cases h2 : l.length = 0
    · exact .inr (.inl ⟨h1', h2⟩)
    · by_cases h3 : 2147483647 < st
      · exact .inr (.inr ⟨h1', h2, h3⟩)
      · exfalso
        apply h
        have hne : l ≠ [] := fun e => h2 (by rw [e]; rfl)
        unfold QuT.collC mayQ
        simp [hne, h3, h1, hr]
end Go.Proofs.Ytlidkieljiebiaa
