/-
  WireKeeps: the book, the stream, and the lists of one round, by memory alone.
-/
import Derived.Test.YtdjibjmhjofedacWStain2
import Derived.Test.YtdjibjmhjofedacWKeep
namespace Go.Proofs.Ytdjibjmhjofedac
open Go.RowKit
set_option linter.unusedVariables false

def Ax (v u : Value) : Prop := ∀ b, v.ownBlock = some b → u.ownBlock ≠ some b
theorem Ax.symm {v u : Value} (h : Ax v u) : Ax u v := fun b hu hv => h b hv hu
theorem Ax.old {v u : Value} {N : Nat} (hv : ∀ b, v.ownBlock = some b → b < N) (hu : ∀ b, u.ownBlock = some b → N ≤ b) : Ax v u := fun b h1 h2 => by
  have := hv b h1
  have := hu b h2
  omega

/-- The cells of the book. -/
def cellsOf (es : List En) : List Value := es.flatMap fun e => [e.1, e.2.2.1, .slice none 0 0]
theorem cellsOf_len (es : List En) : (cellsOf es).length = es.length * 3 := by
  induction es with
  | nil => rfl
  | cons e r ih => simp only [cellsOf, List.flatMap_cons, List.length_append, List.length_cons, List.length_nil] at ih ⊢; omega
theorem cellsOf_append (es fs : List En) : cellsOf (es ++ fs) = cellsOf es ++ cellsOf fs := by simp [cellsOf]
theorem cellsOf_at : ∀ (es : List En) (j : Nat) (e : En), es[j]? = some e → (cellsOf es)[j * 3]? = some e.1 ∧ (cellsOf es)[j * 3 + 1]? = some e.2.2.1 ∧ (cellsOf es)[j * 3 + 2]? = some (.slice none 0 0)
  | d :: r, 0, e, h => by simp at h; subst h; exact ⟨rfl, rfl, rfl⟩
  | d :: r, j + 1, e, h => by
    have ih := cellsOf_at r j e (by simpa using h)
    have e1 : cellsOf (d :: r) = d.1 :: d.2.2.1 :: .slice none 0 0 :: cellsOf r := rfl
    rw [e1, show (j + 1) * 3 = j * 3 + 1 + 1 + 1 by omega]
    simpa using ih

structure Kb (w : World) (cont : Nat → List Int) (es : List En) (bkv : Value) (W : World) : Prop where
  row : W.ownsRow w.heap.size 45 3 bkv es.length (cellsOf es)
  each : ∀ (j : Nat) (e : En), es[j]? = some e → e.2.2.2 = cont (j % 9) ∧ e.2.1 = e.2.2.2.length ∧ W.ownsRow w.heap.size 5 1 e.1 e.2.1 (bv e.2.2.2) ∧ W.ownsRow w.heap.size 5 1 e.2.2.1 e.2.1 (bv e.2.2.2)
  ap : ∀ (i j : Nat) (d e : En), es[i]? = some d → es[j]? = some e → (i ≠ j → Ax d.1 e.1) ∧ Ax d.1 e.2.2.1

/-- The stream is apart from the book. -/
structure Kr (w : World) (es : List En) (sb : Nat) (rv fv : Value) (fs : List (Value × List Int)) (W : World) : Prop where
  st : St W sb rv fv [] fs 0
  ap : ∀ (j : Nat) (e : En), es[j]? = some e → Ax rv e.1 ∧ Ax rv e.2.2.1
  new : ∀ b, (b = sb ∨ rv.ownBlock = some b ∨ fv.ownBlock = some b) → w.heap.size ≤ b
  bel : Below w.heap.size w W

/-- One round under way: its lists fl, and their copies wl. -/
structure Rd (w W0 : World) (cont : Nat → List Int) (es : List En) (bkv : Value) (sb : Nat) (rv fv : Value) (fs fl wl : List (Value × List Int)) (W : World) : Prop where
  kb : Kb w cont es bkv W
  kr : Kr w es sb rv fv fs W
  le : W0.heap.size ≤ W.heap.size
  old : ∀ (j : Nat) (e : En), es[j]? = some e → (∀ b, e.1.ownBlock = some b → b < W0.heap.size) ∧ (∀ b, e.2.2.1.ownBlock = some b → b < W0.heap.size)
  w0 : w.heap.size ≤ W0.heap.size
  lf : ∀ p ∈ fl, W.ownsRow W0.heap.size 5 1 p.1 p.2.length (bv p.2)
  lw : ∀ p ∈ wl, W.ownsRow W0.heap.size 5 1 p.1 p.2.length (bv p.2)
  apf : fl.Pairwise fun p q => Ax p.1 q.1
  apw : ∀ p ∈ fl, ∀ q ∈ wl, Ax p.1 q.1
  apr : ∀ p, p ∈ fl ∨ p ∈ wl → Ax rv p.1

theorem owns_fr3 {S : Nat → Prop} {w w' : World} {base n : Nat} {e : TypeId} {v : Value} {vals : List Value} (h : w.ownsRow base e 3 v n vals) (hf : Fr S w w') (hS : ∀ k, v.ownBlock = some k → ¬ S k) : w'.ownsRow base e 3 v n vals := by
  refine ⟨h.1, ?_⟩
  rcases h.2 with h | ⟨g, cap, cur, rfl, hb, hg, r⟩
  · exact .inl h
  · exact .inr ⟨g, cap, cur, rfl, hb, (hf.block g (lt_of_blk hg) (hS g rfl)).trans hg, r⟩
theorem owns_kind3 {w : World} {base n : Nat} {e : TypeId} {v : Value} {vals : List Value} (h : w.ownsRow base e 3 v n vals) : ∀ k, v.ownBlock = some k → k < w.heap.size ∧ base ≤ k ∧ ∃ cur, w.heap[k]? = some (.cells cur e (0, 0)) := by
  intro k hk
  rcases h.2 with ⟨rfl, _⟩ | ⟨g, cap, cur, rfl, hb, hg, r⟩
  · cases hk
  · cases hk
    exact ⟨lt_of_blk hg, hb, cur, hg⟩

variable {w W0 W W' : World} {cont : Nat → List Int} {es : List En} {bkv : Value} {sb : Nat} {rv fv rv' fv' : Value} {fs fl wl gs : List (Value × List Int)}

theorem Kb.fr {S : Nat → Prop} (h : Kb w cont es bkv W) (hf : Fr S W W') (hb : ∀ k, bkv.ownBlock = some k → ¬ S k) (hl : ∀ (j : Nat) (e : En), es[j]? = some e → (∀ k, e.1.ownBlock = some k → ¬ S k) ∧ (∀ k, e.2.2.1.ownBlock = some k → ¬ S k)) : Kb w cont es bkv W' :=
  ⟨owns_fr3 h.row hf hb, fun j e he => ⟨(h.each j e he).1, (h.each j e he).2.1, owns_fr (h.each j e he).2.2.1 hf (hl j e he).1, owns_fr (h.each j e he).2.2.2 hf (hl j e he).2⟩, h.ap⟩

theorem Rd.below (h : Rd w W0 cont es bkv sb rv fv fs fl wl W) (hb : Below W.heap.size W W') : Rd w W0 cont es bkv sb rv fv fs fl wl W' := by
  have hf : Fr (fun _ => False) W W' := Fr.of_below hb _
  exact ⟨h.kb.fr hf (fun _ _ e => e) (fun _ _ _ => ⟨fun _ _ e => e, fun _ _ e => e⟩), ⟨h.kr.st.below hb, h.kr.ap, h.kr.new, trans2 h.kr.bel hb⟩, Nat.le_trans h.le hb.size, h.old, h.w0, fun p hp => owns_fr (h.lf p hp) hf (fun _ _ e => e), fun p hp => owns_fr (h.lw p hp) hf (fun _ _ e => e), h.apf, h.apw, h.apr⟩

theorem lt_of_owns {base n : Nat} {e : TypeId} {v : Value} {vals : List Value} (h : W.ownsRow base e 1 v n vals) : ∀ b, v.ownBlock = some b → b < W.heap.size := fun b hb => (owns_kind h b hb).1

/-- One more list of its own. -/
theorem Rd.more (h : Rd w W0 cont es bkv sb rv fv fs fl [] W) (hb : Below W.heap.size W W') {v : Value} {zs : List Int} (hv : W'.ownsRow W.heap.size 5 1 v zs.length (bv zs)) : Rd w W0 cont es bkv sb rv fv fs (fl ++ [(v, zs)]) [] W' := by
  have h' := h.below hb
  have hn : ∀ b, v.ownBlock = some b → W.heap.size ≤ b := fun b hk => (owns_kind hv b hk).2.1
  refine ⟨h'.kb, h'.kr, h'.le, h'.old, h'.w0, fun p hp => ?_, h'.lw, ?_, (fun p hp q hq => nomatch hq), fun p hp => ?_⟩
  · rcases List.mem_append.1 hp with hp | hp
    · exact h'.lf p hp
    · rw [List.mem_singleton] at hp; subst hp; exact owns_low hv h.le
  · rw [List.pairwise_append]
    refine ⟨h.apf, List.pairwise_singleton _ _, fun p hp q hq => ?_⟩
    rw [List.mem_singleton] at hq
    subst hq
    exact Ax.old (lt_of_owns (h.lf p hp)) hn
  · rcases hp with hp | hp
    · rcases List.mem_append.1 hp with hp | hp
      · exact h.apr p (.inl hp)
      · rw [List.mem_singleton] at hp
        subst hp
        exact Ax.old (lt_of_owns h.kr.st.room) hn
    · cases hp

/-- One more copy. -/
theorem Rd.copy (h : Rd w W0 cont es bkv sb rv fv fs fl wl W) (hb : Below W.heap.size W W') {v : Value} {zs : List Int} (hv : W'.ownsRow W.heap.size 5 1 v zs.length (bv zs)) : Rd w W0 cont es bkv sb rv fv fs fl (wl ++ [(v, zs)]) W' := by
  have h' := h.below hb
  have hn : ∀ b, v.ownBlock = some b → W.heap.size ≤ b := fun b hk => (owns_kind hv b hk).2.1
  refine ⟨h'.kb, h'.kr, h'.le, h'.old, h'.w0, h'.lf, fun p hp => ?_, h'.apf, fun p hp q hq => ?_, fun p hp => ?_⟩
  · rcases List.mem_append.1 hp with hp | hp
    · exact h'.lw p hp
    · rw [List.mem_singleton] at hp; subst hp; exact owns_low hv h.le
  · rcases List.mem_append.1 hq with hq | hq
    · exact h.apw p hp q hq
    · rw [List.mem_singleton] at hq
      subst hq
      exact Ax.old (lt_of_owns (h.lf p hp)) hn
  · rcases hp with hp | hp
    · exact h.apr p (.inl hp)
    · rcases List.mem_append.1 hp with hp | hp
      · exact h.apr p (.inr hp)
      · rw [List.mem_singleton] at hp
        subst hp
        exact Ax.old (lt_of_owns h.kr.st.room) hn

/-- The stream is fed; what was fed lies apart. -/
theorem Rd.fed (h : Rd w W0 cont es bkv sb rv fv [] fl [] W) {ys : List Int} (hF : Fed W sb rv fv [] [] 0 ys W' rv' fv' gs) (hd : (dec ys).2.1 = 0 ∧ (dec ys).2.2 = ys.length) : Rd w W0 cont es bkv sb rv' fv' gs fl [] W' := by
  have hst := hF.st
  rw [List.nil_append, hd.1, hd.2, List.drop_length, List.nil_append] at hst
  have nb : ∀ {v : Value} {n base : Nat} {vals : List Value}, W.ownsRow base 5 1 v n vals → Ax rv v → ∀ k, v.ownBlock = some k → ¬ (k = sb ∨ rv.ownBlock = some k ∨ fv.ownBlock = some k) := fun hv ha k hk e => by
    obtain ⟨_, _, cur, hc⟩ := owns_kind hv k hk
    rcases e with e | e | e
    · subst e; rw [h.kr.st.blk] at hc; cases hc
    · exact ha k e hk
    · obtain ⟨_, cur', hc'⟩ := h.kr.st.fnd.lt k e
      rw [hc'] at hc; cases hc
  have kx : ∀ {v : Value} {n base : Nat} {vals : List Value}, W.ownsRow base 5 1 v n vals → Ax rv v → Ax rv' v := fun hv ha b hb hv' => by
    rcases hF.rvf b hb with e | e
    · exact ha b e hv'
    · have := lt_of_owns hv b hv'
      omega
  have e1 := h.kb.each
  refine ⟨h.kb.fr hF.fr (fun k hk e => ?_) (fun j e he => ⟨nb (e1 j e he).2.2.1 (h.kr.ap j e he).1, nb (e1 j e he).2.2.2 (h.kr.ap j e he).2⟩), ⟨hst, fun j e he => ⟨kx (e1 j e he).2.2.1 (h.kr.ap j e he).1, kx (e1 j e he).2.2.2 (h.kr.ap j e he).2⟩, fun b hb => ?_, h.kr.bel.trans (hF.fr.below _ h.kr.bel.size h.kr.new)⟩, Nat.le_trans h.le hF.fr.size, h.old, h.w0, fun p hp => owns_fr (h.lf p hp) hF.fr (nb (h.lf p hp) (h.apr p (.inl hp))), (fun p hp => nomatch hp), h.apf, (fun p hp q hq => nomatch hq), fun p hp => ?_⟩
  · obtain ⟨_, _, cur, hc⟩ := owns_kind3 h.kb.row k hk
    rcases e with e | e | e
    · subst e; rw [h.kr.st.blk] at hc; cases hc
    · obtain ⟨_, _, cur', hc'⟩ := owns_kind h.kr.st.room k e
      rw [hc'] at hc; cases hc
    · obtain ⟨_, cur', hc'⟩ := h.kr.st.fnd.lt k e
      rw [hc'] at hc; cases hc
  · have hs := h.kr.bel.size
    rcases hb with e | e | e
    · exact h.kr.new b (.inl e)
    · rcases hF.rvf b e with e | e
      · exact h.kr.new b (.inr (.inl e))
      · omega
    · rcases hF.fvf b e with e | e
      · exact h.kr.new b (.inr (.inr e))
      · omega
  · rcases hp with hp | hp
    · exact kx (h.lf p hp) (h.apr p (.inl hp))
    · cases hp

/-- A block of no one is written into. -/
theorem Rd.spoil (h : Rd w W0 cont es bkv sb rv fv fs fl wl W) {g : Nat} (hf : Fr (fun k => k = g) W W') (hg : ∃ cur, W.heap[g]? = some (.cells cur 5 (0, 0))) (hgn : W0.heap.size ≤ g) (hrv : rv.ownBlock ≠ some g) (hfs : ∀ p ∈ fs, p.1.ownBlock ≠ some g) (hfl : ∀ p, p ∈ fl ∨ p ∈ wl → p.1.ownBlock ≠ some g) : Rd w W0 cont es bkv sb rv fv fs fl wl W' := by
  obtain ⟨cur, hg⟩ := hg
  have hw := h.w0
  refine ⟨h.kb.fr hf (fun k hk e => ?_) (fun j e he => ⟨fun k hk e' => ?_, fun k hk e' => ?_⟩), ⟨h.kr.st.fr hf (fun e => ?_) (fun k hk e => hrv (by rw [← show k = g from e]; exact hk)) (fun k hk e => ?_) (fun p hp k hk e => hfs p hp (by rw [← show k = g from e]; exact hk)), h.kr.ap, h.kr.new, h.kr.bel.trans (hf.below _ h.kr.bel.size (fun k e => by rw [show k = g from e]; omega))⟩, Nat.le_trans h.le hf.size, h.old, h.w0, fun p hp => owns_fr (h.lf p hp) hf (fun k hk e => hfl p (.inl hp) (by rw [← show k = g from e]; exact hk)), fun p hp => owns_fr (h.lw p hp) hf (fun k hk e => hfl p (.inr hp) (by rw [← show k = g from e]; exact hk)), h.apf, h.apw, h.apr⟩
  · obtain ⟨_, _, cur', hc⟩ := owns_kind3 h.kb.row k hk
    rw [show k = g from e, hg] at hc; cases hc
  · have := (h.old j e he).1 k hk
    have : k = g := e'
    omega
  · have := (h.old j e he).2 k hk
    have : k = g := e'
    omega
  · subst e; rw [h.kr.st.blk] at hg; cases hg
  · obtain ⟨_, cur', hc⟩ := h.kr.st.fnd.lt k hk
    rw [show k = g from e, hg] at hc; cases hc

/-- All bodies are taken. -/
theorem Rd.took (h : Rd w W0 cont es bkv sb rv fv fs fl [] W) (hnew : ∀ p ∈ fs, ∀ b, p.1.ownBlock = some b → W0.heap.size ≤ b) (hx : ∀ p ∈ fl, ∀ q ∈ fs, Ax p.1 q.1) {lv : Value} {most : Int} (hT : Tk W sb rv fv [] fs 0 most fs.length fs.length lv fv' W') : Rd w W0 cont es bkv sb rv fv' [] (fl ++ fs) [] W' := by
  have hst := hT.st
  rw [List.drop_length] at hst
  have nb : ∀ {v : Value} {n base : Nat} {vals : List Value}, W.ownsRow base 5 1 v n vals → ∀ k, v.ownBlock = some k → ¬ Ours sb fv k := fun hv k hk e => by
    obtain ⟨_, _, cur, hc⟩ := owns_kind hv k hk
    rcases e with e | e
    · subst e; rw [h.kr.st.blk] at hc; cases hc
    · obtain ⟨_, cur', hc'⟩ := h.kr.st.fnd.lt k e
      rw [hc'] at hc; cases hc
  have e1 := h.kb.each
  have hap := h.kr.st.apart
  unfold ApartV at hap
  rw [List.pairwise_cons] at hap
  refine ⟨h.kb.fr hT.fr (fun k hk e => ?_) (fun j e he => ⟨nb (e1 j e he).2.2.1, nb (e1 j e he).2.2.2⟩), ⟨hst, h.kr.ap, fun b hb => ?_, h.kr.bel.trans (hT.fr.below _ h.kr.bel.size (fun k e => ?_))⟩, Nat.le_trans h.le hT.fr.size, h.old, h.w0, fun p hp => ?_, (fun p hp => nomatch hp), ?_, (fun p hp q hq => nomatch hq), fun p hp => ?_⟩
  · obtain ⟨_, _, cur, hc⟩ := owns_kind3 h.kb.row k hk
    rcases e with e | e
    · subst e; rw [h.kr.st.blk] at hc; cases hc
    · obtain ⟨_, cur', hc'⟩ := h.kr.st.fnd.lt k e
      rw [hc'] at hc; cases hc
  · rcases hb with e | e | e
    · exact h.kr.new b (.inl e)
    · exact h.kr.new b (.inr (.inl e))
    · exact h.kr.new b (.inr (.inr (hT.sub b e)))
  · rcases e with e | e
    · exact h.kr.new k (.inl e)
    · exact h.kr.new k (.inr (.inr e))
  · rcases List.mem_append.1 hp with hp | hp
    · exact owns_fr (h.lf p hp) hT.fr (nb (h.lf p hp))
    · exact owns_base (hT.each p (by rw [List.take_length]; exact hp)) (hnew p hp)
  · rw [List.pairwise_append]
    exact ⟨h.apf, (List.pairwise_map.1 hap.2).imp (fun h => h), hx⟩
  · rcases hp with hp | hp
    · rcases List.mem_append.1 hp with hp | hp
      · exact h.apr p (.inl hp)
      · exact hap.1 p.1 (List.mem_map_of_mem hp)
    · cases hp
end Go.Proofs.Ytdjibjmhjofedac
