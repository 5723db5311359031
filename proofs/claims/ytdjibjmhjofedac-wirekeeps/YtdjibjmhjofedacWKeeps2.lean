/-
  WireKeeps: a round goes into the book.
-/
import Derived.Test.YtdjibjmhjofedacWKeeps1
namespace Go.Proofs.Ytdjibjmhjofedac
open Go.RowKit
set_option linter.unusedVariables false

/-- The entries of a round. -/
def newOf (fl wl : List (Value × List Int)) : List En := List.zipWith (fun p q => (p.1, p.2.length, q.1, p.2)) fl wl

variable {w W0 W W' : World} {cont : Nat → List Int} {es : List En} {bkv bkv' : Value} {sb : Nat} {rv fv : Value} {fs fl wl : List (Value × List Int)}

theorem new_at {j : Nat} {e : En} (h : (es ++ newOf fl wl)[j]? = some e) : (j < es.length ∧ es[j]? = some e) ∨ (∃ i p q, j = es.length + i ∧ fl[i]? = some p ∧ wl[i]? = some q ∧ e = (p.1, p.2.length, q.1, p.2)) := by
  by_cases hj : j < es.length
  · rw [List.getElem?_append_left hj] at h
    exact .inl ⟨hj, h⟩
  · rw [List.getElem?_append_right (by omega)] at h
    unfold newOf at h
    rw [List.getElem?_zipWith] at h
    refine .inr ⟨j - es.length, ?_⟩
    cases hp : fl[j - es.length]? with
    | none => rw [hp] at h; simp at h
    | some p =>
      cases hq : wl[j - es.length]? with
      | none => rw [hp, hq] at h; simp at h
      | some q =>
        rw [hp, hq] at h
        simp at h
        exact ⟨p, q, by omega, rfl, rfl, h.symm⟩

theorem new_len (h : fl.length = 9) (h' : wl.length = 9) : (newOf fl wl).length = 9 := by unfold newOf; rw [List.length_zipWith, h, h']; rfl

theorem Rd.book (h : Rd w W0 cont es bkv sb rv fv fs fl wl W) (h9 : es.length % 9 = 0) (hf : fl.map (·.2) = (List.range 9).map cont) (hw : wl.map (·.2) = fl.map (·.2)) {o : Obj}
    (hrow : W'.ownsRow w.heap.size 45 3 bkv' (es ++ newOf fl wl).length (cellsOf (es ++ newOf fl wl))) (hg : (W.alloc o).grownBy W' bkv.ownBlock) :
    Kb w cont (es ++ newOf fl wl) bkv' W' ∧ Kr w (es ++ newOf fl wl) sb rv fv fs W' := by
  have hfr : Fr (fun k => bkv.ownBlock = some k) W W' := ((Fr.of_below ((Below.refl _ W).alloc (Nat.le_refl _) o) (fun k => bkv.ownBlock = some k))).trans (Fr.of_grown hg) (fun k e => .inl e)
  have nk : ∀ {v : Value} {n base : Nat} {vals : List Value}, W.ownsRow base 5 1 v n vals → ∀ k, v.ownBlock = some k → ¬ bkv.ownBlock = some k := fun hv k hk e => by
    obtain ⟨_, _, cur, hc⟩ := owns_kind hv k hk
    obtain ⟨_, _, cur', hc'⟩ := owns_kind3 h.kb.row k e
    rw [hc'] at hc; cases hc
  have up : ∀ {v : Value} {n base : Nat} {vals : List Value}, W.ownsRow base 5 1 v n vals → W'.ownsRow base 5 1 v n vals := fun hv => owns_fr hv hfr (nk hv)
  have hfn : fl.length = 9 := by have := congrArg List.length hf; simpa using this
  have hwn : wl.length = 9 := by have := congrArg List.length hw; rw [List.length_map, List.length_map] at this; omega
  have fresh : ∀ {v : Value} {n : Nat} {vals : List Value}, W.ownsRow W0.heap.size 5 1 v n vals → ∀ b, v.ownBlock = some b → W0.heap.size ≤ b := fun hv b hb => (owns_kind hv b hb).2.1
  refine ⟨⟨hrow, fun j e he => ?_, fun i j d e hd he => ?_⟩, ⟨?_, fun j e he => ?_, h.kr.new, ?_⟩⟩
  · rcases new_at he with ⟨_, he⟩ | ⟨i, p, q, rfl, hp, hq, rfl⟩
    · obtain ⟨a1, a2, a3, a4⟩ := h.kb.each j e he
      exact ⟨a1, a2, up a3, up a4⟩
    · have hi : i < 9 := by have := (List.getElem?_eq_some_iff.1 hp).1; omega
      have e1 : p.2 = cont i := by
        have := congrArg (·[i]?) hf
        simp only [List.getElem?_map, hp, Option.map_some, List.getElem?_range hi] at this
        exact Option.some.inj this
      have e2 : q.2 = p.2 := by
        have := congrArg (·[i]?) hw
        simp only [List.getElem?_map, hp, hq, Option.map_some] at this
        exact Option.some.inj this
      refine ⟨?_, rfl, owns_low (up (h.lf p (List.mem_of_getElem? hp))) h.w0, ?_⟩
      · show p.2 = cont ((es.length + i) % 9)
        rw [e1, show (es.length + i) % 9 = i by omega]
      · have := owns_low (up (h.lw q (List.mem_of_getElem? hq))) h.w0
        rw [e2] at this
        exact this
  · rcases new_at hd with ⟨_, hd⟩ | ⟨i', p, q, rfl, hp, hq, rfl⟩
    · rcases new_at he with ⟨_, he⟩ | ⟨j', p', q', rfl, hp', hq', rfl⟩
      · exact h.kb.ap i j d e hd he
      · exact ⟨fun _ => Ax.old (h.old i d hd).1 (fresh (h.lf p' (List.mem_of_getElem? hp'))), Ax.old (h.old i d hd).1 (fresh (h.lw q' (List.mem_of_getElem? hq')))⟩
    · rcases new_at he with ⟨_, he⟩ | ⟨j', p', q', rfl, hp', hq', rfl⟩
      · exact ⟨fun _ => (Ax.old (h.old j e he).1 (fresh (h.lf p (List.mem_of_getElem? hp)))).symm, (Ax.old (h.old j e he).2 (fresh (h.lf p (List.mem_of_getElem? hp)))).symm⟩
      · refine ⟨fun hne => ?_, h.apw p (List.mem_of_getElem? hp) q' (List.mem_of_getElem? hq')⟩
        obtain ⟨h1, e1⟩ := List.getElem?_eq_some_iff.1 hp
        obtain ⟨h2, e2⟩ := List.getElem?_eq_some_iff.1 hp'
        rcases Nat.lt_or_gt_of_ne (show i' ≠ j' from fun e => hne (by rw [e])) with hl | hl
        · have := List.pairwise_iff_getElem.1 h.apf i' j' h1 h2 hl
          rw [e1, e2] at this
          exact this
        · have := List.pairwise_iff_getElem.1 h.apf j' i' h2 h1 hl
          rw [e1, e2] at this
          exact this.symm
  · refine h.kr.st.fr hfr (fun e => ?_) (nk h.kr.st.room) (fun k hk e => ?_) (fun p hp => nk (h.kr.st.each p hp).1)
    · obtain ⟨_, _, cur', hc'⟩ := owns_kind3 h.kb.row _ e
      rw [h.kr.st.blk] at hc'; cases hc'
    · obtain ⟨_, cur, hc⟩ := h.kr.st.fnd.lt k hk
      obtain ⟨_, _, cur', hc'⟩ := owns_kind3 h.kb.row k e
      rw [hc'] at hc; cases hc
  · rcases new_at he with ⟨_, he⟩ | ⟨i, p, q, rfl, hp, hq, rfl⟩
    · exact h.kr.ap j e he
    · exact ⟨h.apr p (.inl (List.mem_of_getElem? hp)), h.apr q (.inr (List.mem_of_getElem? hq))⟩
  · exact h.kr.bel.trans (hfr.below _ h.kr.bel.size (fun k e => (owns_kind3 h.kb.row k e).2.1))

/-- A round begins. -/
theorem Rd.begin (hk : Kb w cont es bkv W) (hr : Kr w es sb rv fv [] W) : Rd w W cont es bkv sb rv fv [] [] [] W :=
  ⟨hk, hr, Nat.le_refl _, fun j e he => ⟨lt_of_owns (hk.each j e he).2.2.1, lt_of_owns (hk.each j e he).2.2.2⟩, hr.bel.size, (fun p hp => nomatch hp), (fun p hp => nomatch hp), List.Pairwise.nil, (fun p hp => nomatch hp), (fun p hp => by rcases hp with h | h <;> cases h)⟩

/-- Nothing yet. -/
theorem keeps_start {W : World} (hb : Below w.heap.size w W) (cont : Nat → List Int) : Kb w cont [] (.slice none 0 0) (W.alloc (.cells #[.slice none 0 0, .slice none 0 0, .int .i64 0] 33)) ∧ Kr w [] W.heap.size (.slice none 0 0) (.slice none 0 0) [] (W.alloc (.cells #[.slice none 0 0, .slice none 0 0, .int .i64 0] 33)) := by
  refine ⟨⟨World.ownsRow_nil _ _ _ _, (fun j e he => by simp at he), (fun i j d e hd _ => by simp at hd)⟩, ⟨St.zero W, (fun j e he => by simp at he), fun b hb' => ?_, hb.alloc hb.size _⟩⟩
  rcases hb' with e | e | e
  · rw [e]; exact hb.size
  · cases e
  · cases e

/-- Three frames are three bodies. -/
theorem dec_three {body other : List Int} (hb : Byt body) (ho : Byt other) (h1 : body.length ≤ 262144) (h2 : other.length ≤ 262144) : dec (frameL body ++ frameL other ++ frameL body) = ([body, other, body], 0, (frameL body ++ frameL other ++ frameL body).length) := by
  have h3 := dec_frame hb h1 []
  rw [List.append_nil, dec_nil] at h3
  rw [List.append_assoc, dec_frame hb h1, dec_frame ho h2, h3]
  refine Prod.ext rfl (Prod.ext rfl ?_)
  simp

/-- The book, for stained. -/
theorem Kb.bk (h : Kb w cont es bkv W) (hn : 0 < es.length) : ∃ g cap, bkv = .slice (some ⟨g, 0, none⟩) es.length cap ∧ es.length ≤ cap ∧ w.heap.size ≤ g ∧ Bk W g es (fun _ => .slice none 0 0) := by
  rcases h.row.2 with ⟨_, h0⟩ | ⟨g, cap, cur, rfl, hw, hg, h1, h2, h3, ht⟩
  · omega
  · refine ⟨g, cap, rfl, h1, hw, ⟨cur, hg, fun j e he => ?_⟩⟩
    have hj : j < es.length := (List.getElem?_eq_some_iff.1 he).1
    obtain ⟨a1, a2, a3⟩ := cellsOf_at es j e he
    have at' : ∀ {k : Nat} {v : Value}, k < es.length * 3 → (cellsOf es)[k]? = some v → cur[k]? = some v := fun hk hv => by
      rw [← ht, List.getElem?_take, if_pos hk] at hv
      rw [← Array.getElem?_toList]
      exact hv
    exact ⟨at' (by omega) a1, at' (by omega) a2, at' (by omega) a3⟩
theorem Kb.apart (h : Kb w cont es bkv W) : Ap es := fun i j d e hd he hne => (h.ap i j d e hd he).1 hne
end Go.Proofs.Ytdjibjmhjofedac
