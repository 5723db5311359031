/-
  taken: the next bodies of a stream, at most so many.
-/
import Derived.Test.YtdjibjmhjofedacWTaken
namespace Go.Proofs.Ytdjibjmhjofedac
open Go.RowKit Go.Shelf
set_option linter.unusedVariables false
attribute [local go_sem] Oper.semAt_some

/-- The blocks of a stream that a call may turn. -/
def Ours (sb : Nat) (fv : Value) : Nat → Prop := fun b => b = sb ∨ fv.ownBlock = some b

/-- taken, under way: k in the list, j taken out of the stream. -/
structure Tk (w : World) (sb : Nat) (rv fv : Value) (xs : List Int) (fs : List (Value × List Int)) (sk : Nat) (most : Int) (k j : Nat) (lv fv' : Value) (W : World) : Prop where
  st : St W sb rv fv' xs (fs.drop j) sk
  sub : ∀ b, fv'.ownBlock = some b → fv.ownBlock = some b
  bm : W.heap[w.heap.size]? = some (.cells #[.int .i64 most] 3 (0, 0))
  bl : W.heap[w.heap.size + 1]? = some (.cells #[lv] 22 (0, 0))
  bs : W.heap[w.heap.size + 2]? = some (.cells #[.pointer (some ⟨sb, 0, none⟩)] 31 (0, 0))
  row : W.ownsRow w.heap.size 26 1 lv k ((fs.take k).map (·.1))
  each : ∀ p ∈ fs.take j, W.ownsRow 0 5 1 p.1 p.2.length (bv p.2)
  fr : Fr (Ours sb fv) w W

variable {w : World} {sb : Nat} {rv fv : Value} {xs : List Int} {fs : List (Value × List Int)} {sk : Nat} {most : Int}

/-- Whatever turns blocks that are not ours. -/
theorem Tk.fr' {k j : Nat} {lv fv' : Value} {W W' : World} {S : Nat → Prop} (h : Tk w sb rv fv xs fs sk most k j lv fv' W) (hf : Fr S W W') (hS : ∀ b o, S b → W.heap[b]? = some o → o.isCells = false) (hB : ∀ b, S b → w.heap.size ≤ b) : Tk w sb rv fv xs fs sk most k j lv fv' W' := by
  have no : ∀ {b : Nat} {cur : Array Value} {e : TypeId} {z : Nat × Nat}, W.heap[b]? = some (.cells cur e z) → ¬ S b := fun hb hs => by
    have := hS _ _ hs hb
    cases this
  have ho : ∀ {v : Value} {n base : Nat} {e : TypeId} {vals : List Value}, W.ownsRow base e 1 v n vals → ∀ b, v.ownBlock = some b → ¬ S b := fun hv b hb => by
    obtain ⟨_, _, cur, hc⟩ := owns_kind hv b hb
    exact no hc
  exact ⟨h.st.fr hf (no h.st.blk) (ho h.st.room) (fun b hb => by obtain ⟨_, cur, hc⟩ := h.st.fnd.lt b hb; exact no hc) (fun p hp => ho (h.st.each p hp).1), h.sub, (hf.block _ (lt_of_blk h.bm) (no h.bm)).trans h.bm, (hf.block _ (lt_of_blk h.bl) (no h.bl)).trans h.bl, (hf.block _ (lt_of_blk h.bs) (no h.bs)).trans h.bs,
    owns_fr h.row hf (ho h.row), fun p hp => owns_fr (h.each p hp) hf (ho (h.each p hp)), h.fr.trans hf (fun b hb => .inr (hB b hb))⟩

theorem Tk.grown {k j : Nat} {lv fv' : Value} {W W' : World} {row : Option Nat} {B : Nat} (h : Tk w sb rv fv xs fs sk most k j lv fv' W) (hB : w.heap.size ≤ B) (hg : W.grownBy W' row) (hr : ∀ r, row = some r → B ≤ r ∧ ∃ o : Obj, W.heap[r]? = some o ∧ o.isCells = false) : Tk w sb rv fv xs fs sk most k j lv fv' W' :=
  h.fr' (Fr.of_grown hg) (fun b o e ho => by obtain ⟨_, o', ho', hc⟩ := hr b e; rw [ho] at ho'; cases ho'; exact hc) (fun b e => by have := (hr b e).1; omega)

/-- It speaks of cells alone. -/
theorem Tk.own {β : Type} (k j : β → Nat) (lv fv' : β → Value) : OwnFrom w.heap.size (fun (s : β) W => Tk w sb rv fv xs fs sk most (k s) (j s) (lv s) (fv' s) W) :=
  fun s A B row hs hg hr => hs.fr' (Fr.of_grown hg) (fun b o e ho => by obtain ⟨_, o', ho', hc⟩ := hr b e; rw [ho] at ho'; cases ho'; exact hc) (fun b e => (hr b e).1)

theorem Tk.take {k j : Nat} {lv fv' : Value} {W W' : World} (h : Tk w sb rv fv xs fs sk most k j lv fv' W) {p : Value × List Int} {rest : List (Value × List Int)} {fv2 : Value} (hd : fs.drop j = p :: rest) (ht : Took W sb rv fv' xs sk p rest W' fv2) (hfl : ∀ b, fv.ownBlock = some b → b < w.heap.size) :
    Tk w sb rv fv xs fs sk most k (j + 1) lv fv2 W' ∧ fs[j]? = some p ∧ KeepsOthers W W' := by
  have hj : fs[j]? = some p := by
    have : (fs.drop j)[0]? = some p := by rw [hd]; rfl
    rwa [List.getElem?_drop] at this
  have hr : rest = fs.drop (j + 1) := by
    have : (fs.drop j).drop 1 = rest := by rw [hd]; rfl
    rw [List.drop_drop] at this
    exact this.symm
  have hfb : ∀ b, fv'.ownBlock = some b → b < w.heap.size := fun b hb => hfl b (h.sub b hb)
  have hss := h.st.lt
  have hsl : sb < w.heap.size ∨ w.heap.size ≤ sb := Nat.lt_or_ge _ _
  have nb : ∀ {b : Nat} {cur : Array Value} {e : TypeId} {z : Nat × Nat}, W.heap[b]? = some (.cells cur e z) → e ≠ 33 → e ≠ 26 → ¬ Ours sb fv' b := fun hb h1 h2 e => by
    rcases e with e | e
    · subst e; rw [h.st.blk] at hb; cases hb; exact h1 rfl
    · obtain ⟨_, cur, hc⟩ := h.st.fnd.lt _ e
      rw [hc] at hb; cases hb; exact h2 rfl
  refine ⟨⟨by rw [← hr]; exact ht.st, fun b hb => h.sub b (ht.fv b hb), (ht.fr.block _ (lt_of_blk h.bm) (nb h.bm (by decide) (by decide))).trans h.bm, (ht.fr.block _ (lt_of_blk h.bl) (nb h.bl (by decide) (by decide))).trans h.bl, (ht.fr.block _ (lt_of_blk h.bs) (nb h.bs (by decide) (by decide))).trans h.bs,
    owns_fr h.row ht.fr (fun b hb e => ?_), fun q hq => ?_, h.fr.trans ht.fr (fun b e => ?_)⟩, hj, ht.fr.keeps (fun b o e ho => ?_)⟩
  · obtain ⟨_, hbb, cur, hc⟩ := owns_kind h.row b hb
    rcases e with e | e
    · subst e; rw [h.st.blk] at hc; cases hc
    · have := hfb b e; omega
  · rw [List.take_add_one, hj] at hq
    simp only [Option.toList_some, List.mem_append, List.mem_singleton] at hq
    rcases hq with hq | hq
    · refine owns_fr (h.each q hq) ht.fr (fun b hb => ?_)
      obtain ⟨_, _, cur, hc⟩ := owns_kind (h.each q hq) b hb
      exact nb hc (by decide) (by decide)
    · subst hq
      exact ht.own
  · rcases e with e | e
    · exact .inl (.inl e)
    · exact .inl (.inr (h.sub b e))
  · rcases e with e | e
    · subst e; rw [h.st.blk] at ho; cases ho; rfl
    · obtain ⟨_, cur, hc⟩ := h.st.fnd.lt _ e
      rw [hc] at ho; cases ho; rfl

/-- One more in the list. -/
theorem Tk.put {k : Nat} {lv fv' : Value} {W w1 : World} (h : Tk w sb rv fv xs fs sk most k (k + 1) lv fv' W) {p : Value × List Int} (hp : fs[k]? = some p) {lv2 : Value} (hfl : ∀ b, fv.ownBlock = some b → b < w.heap.size)
    (hrow : w1.ownsRow w.heap.size 26 1 lv2 (k + 1) (((fs.take k).map (·.1)) ++ [p.1])) (hg : (W.alloc (.cells #[p.1] 26)).grownBy w1 lv.ownBlock) (hl : w.heap.size + 2 < W.heap.size) :
    Tk w sb rv fv xs fs sk most (k + 1) (k + 1) lv2 fv' (w1.setCell ⟨w.heap.size + 1, 0, none⟩ lv2) ∧ KeepsOthers W (w1.setCell ⟨w.heap.size + 1, 0, none⟩ lv2) ∧ w1.heap[w.heap.size + 1]? = some (.cells #[lv] 22 (0, 0)) ∧ w1.cell? ⟨w.heap.size, 0, none⟩ = some (.int .i64 most) := by
  have hf0 : Fr (fun b => lv.ownBlock = some b ∨ b = w.heap.size + 1) W (w1.setCell ⟨w.heap.size + 1, 0, none⟩ lv2) :=
    ((Fr.of_below ((Below.refl _ W).alloc (Nat.le_refl _) _) (fun b => lv.ownBlock = some b ∨ b = w.heap.size + 1)).trans (Fr.of_grown hg) (fun b e => .inl (.inl e))).set _ _ (.inr rfl)
  have hk := owns_kind h.row
  have no : ∀ {b : Nat} {cur : Array Value} {e : TypeId} {z : Nat × Nat}, W.heap[b]? = some (.cells cur e z) → e ≠ 22 → (e = 26 → b < w.heap.size) → ¬ (lv.ownBlock = some b ∨ b = w.heap.size + 1) := fun hb h1 h2 e => by
    rcases e with e | e
    · obtain ⟨_, hle, cur, hc⟩ := hk _ e
      rw [hc] at hb; cases hb
      have := h2 rfl
      omega
    · subst e; rw [h.bl] at hb; cases hb; exact h1 rfl
  have ho : ∀ {v : Value} {n : Nat} {vals : List Value}, W.ownsRow 0 5 1 v n vals → ∀ b, v.ownBlock = some b → ¬ (lv.ownBlock = some b ∨ b = w.heap.size + 1) := fun hv b hb => by
    obtain ⟨_, _, cur, hc⟩ := owns_kind hv b hb
    exact no hc (by decide) (fun e => absurd e (by decide))
  have hbl1 : w1.heap[w.heap.size + 1]? = some (.cells #[lv] 22 (0, 0)) := by
    refine (hg.block _ (by rw [World.size_alloc]; omega) (fun e => ?_)).trans ((Below.heap_alloc _ _ _ (by omega)).trans h.bl)
    obtain ⟨_, _, cur, hc⟩ := hk _ e.symm
    rw [h.bl] at hc; cases hc
  refine ⟨⟨h.st.fr hf0 (no h.st.blk (by decide) (fun e => absurd e (by decide))) (ho h.st.room) (fun b hb => ?_) (fun p hp => ho (h.st.each p hp).1), h.sub, (hf0.block _ (lt_of_blk h.bm) (no h.bm (by decide) (fun e => absurd e (by decide)))).trans h.bm, set_blk hbl1 0 lv2, (hf0.block _ (lt_of_blk h.bs) (no h.bs (by decide) (fun e => absurd e (by decide)))).trans h.bs, ?_, fun p hp => owns_fr (h.each p hp) hf0 (ho (h.each p hp)), h.fr.trans hf0 (fun b e => ?_)⟩, hf0.keeps (fun b o e ho => ?_), hbl1, ?_⟩
  · obtain ⟨_, cur, hc⟩ := h.st.fnd.lt b hb
    exact no hc (by decide) (fun _ => hfl b (h.sub b hb))
  · rw [List.take_add_one, hp]
    simp only [Option.toList_some, List.map_append, List.map_cons, List.map_nil]
    refine owns_fr hrow (Fr.of_setCell w1 ⟨w.heap.size + 1, 0, none⟩ lv2) (fun b hb e => ?_)
    obtain ⟨_, _, cur, hc⟩ := owns_kind hrow b hb
    dsimp only at e
    subst e
    rw [hbl1] at hc; cases hc
  · rcases e with e | e
    · exact .inr (hk b e).2.1
    · exact .inr (by omega)
  · rcases e with e | e
    · obtain ⟨_, _, cur, hc⟩ := hk b e
      rw [hc] at ho; cases ho; rfl
    · subst e; rw [h.bl] at ho; cases ho; rfl
  · have : w1.heap[w.heap.size]? = some (.cells #[.int .i64 most] 3 (0, 0)) := by
      refine (hg.block _ (by rw [World.size_alloc]; omega) (fun e => ?_)).trans ((Below.heap_alloc _ _ _ (by omega)).trans h.bm)
      obtain ⟨_, _, cur, hc⟩ := hk _ e.symm
      rw [h.bm] at hc; cases hc
    exact (cell_blk this 0).trans rfl

theorem eq_func_nil (w : World) (n : Nat) (f : Fn) (a b : Array Value) : (Op.equalIn (n + 1) 63 (.func f a b) .nilFunc).run Try.prog w = .ok false w := by
  simp [Op.equalIn, run_underlying Try.underlying63]
theorem eql_func_nil (w : World) (f : Fn) (a b : Array Value) : (binOp .eql 63 (.func f a b) .nilFunc).run Try.prog w = .ok (.bool false) w := by
  simp only [binOp]
  simp [Op.equal, Op.maxDepth, eq_func_nil]

theorem Tk.start {w : World} {sb : Nat} {rv fv : Value} {xs : List Int} {fs : List (Value × List Int)} {sk : Nat} (h : St w sb rv fv xs fs sk) (most : Int) :
    Tk w sb rv fv xs fs sk most 0 0 (.slice none 0 0) fv (((w.alloc (.cells #[.int .i64 most] 3)).alloc (.cells #[.slice none 0 0] 22)).alloc (.cells #[.pointer (some ⟨sb, 0, none⟩)] 31)) := by
  have hb : Below w.heap.size w (((w.alloc (.cells #[.int .i64 most] 3)).alloc (.cells #[.slice none 0 0] 22)).alloc (.cells #[.pointer (some ⟨sb, 0, none⟩)] 31)) := (((Below.refl _ w).alloc (Nat.le_refl _) _).alloc (by simp) _).alloc (by simp; omega) _
  refine ⟨h.below hb, fun b hb => hb, ?_, ?_, ?_, World.ownsRow_nil _ _ _ _, fun p hp => by simp at hp, Fr.of_below hb _⟩
  · exact (Below.heap_alloc _ _ _ (by simp; omega)).trans ((Below.heap_alloc _ _ _ (by simp)).trans (World.alloc_heap_new w _))
  · refine (Below.heap_alloc _ _ _ (by simp)).trans ?_
    have := World.alloc_heap_new (w.alloc (.cells #[.int .i64 most] 3)) (.cells #[.slice none 0 0] 22)
    rwa [World.size_alloc] at this
  · have := World.alloc_heap_new ((w.alloc (.cells #[.int .i64 most] 3)).alloc (.cells #[.slice none 0 0] 22)) (.cells #[.pointer (some ⟨sb, 0, none⟩)] 31)
    rwa [World.size_alloc, World.size_alloc] at this

set_option maxRecDepth 100000 in
set_option maxHeartbeats 6400000 in
theorem taken_st (sb sk : Nat) (rv fv : Value) (xs : List Int) (fs : List (Value × List Int)) (most : Int) (w : World) (h : St w sb rv fv xs fs sk) (hm : 0 < most) (hl : fs.length ≤ 100000) :
    Calls Try.prog 11 #[.pointer (some ⟨sb, 0, none⟩), .int .i64 most] w fun e w' => ∃ k lv fv', e = .returned (.tuple #[lv, .bool true]) ∧ k ≤ fs.length ∧ (k : Int) ≤ most ∧ ((k : Int) < most → k = fs.length) ∧ Tk w sb rv fv xs fs sk most k k lv fv' w' := by
  have hfl : ∀ b, fv.ownBlock = some b → b < w.heap.size := fun b hb => (h.fnd.lt b hb).1
  obtain ⟨i0, hi, hz0, hz1, hz2⟩ := info_parts info_body
  have HT0 : Hid _ := Tk.start h most
  have heq := eql_func_nil
  refine (callsIn_wide (n := 3)).1 ?_
  refine callsIn_of_wp_marks Try.func11 rfl trivial ?_ rfl
  simp only [Try.ntmps11, List.size_toArray, List.length_cons, List.length_nil, Nat.reduceAdd, Nat.reduceSub, Array.replicate_succ, Array.replicate_zero, List.push_toArray, List.append_toArray, List.nil_append, List.cons_append]
  have hc1 := (cell_blk HT0.out.bm 0)
  gi_wp2_with (refine ⟨trivial, ?_⟩; gi_at_call 31; refine (callsIn_wide.2 (bodies_any _ _)).mono ?_; rintro e w' ⟨rfl, rfl⟩)
  clear hc1
  obtain ⟨W0, hW0⟩ : ∃ W0, (((w.alloc (.cells #[.int .i64 most] 3)).alloc (.cells #[.slice none 0 0] 22)).alloc (.cells #[.pointer (some ⟨sb, 0, none⟩)] 31)) = W0 := ⟨_, rfl⟩
  rw [hW0] at HT0 ⊢
  have hsz : W0.heap.size = w.heap.size + 1 + 1 + 1 := by rw [← hW0]; simp
  have hB0 : w.heap.size ≤ W0.heap.size := by omega
  have bx : ∀ {k j : Nat} {lv fv' : Value} {W : World}, Tk w sb rv fv xs fs sk most k j lv fv' W → W.cell? ⟨w.heap.size + 1 + 1, 0, none⟩ = some (.pointer (some ⟨sb, 0, none⟩)) := fun h => (cell_blk h.bs 0).trans rfl
  refine wpIn_range_st (σ := Nat) (α := Value) rfl (by decide) (gf := 41) (lb := #[.pointer (some ⟨w.heap.size + 1 + 1, 0, none⟩)]) rfl trivial (enters_of Try.func41 (by kernel_rfl) rfl)
    (encs := fun v => #[v]) (fun _ => rfl)
    (I := fun k W => ∃ lv fv', Tk w sb rv fv xs fs sk most k k lv fv' W ∧ k ≤ fs.length ∧ (k : Int) < most)
    (Y := fun k x W => ∃ lv fv' p, Tk w sb rv fv xs fs sk most k (k + 1) lv fv' W ∧ fs[k]? = some p ∧ x = p.1 ∧ (k : Int) < most)
    (N := fun k _ k' => k' = k + 1 ∧ k < fs.length)
    (X := fun c W => c = .exit 0 ∧ ∃ k lv fv', Tk w sb rv fv xs fs sk most k k lv fv' W ∧ k ≤ fs.length ∧ (k : Int) = most)
    (E := fun W => ∃ lv fv', Tk w sb rv fv xs fs sk most fs.length fs.length lv fv' W ∧ (fs.length : Int) < most) (s0 := 0)
    (bodies_seq _ (some ⟨sb, 0, none⟩) (w.heap.size + 1 + 1) _ _ _ _ _ _ _ (fun k => fs.length - k) ?takes (by rintro k x k' ⟨rfl, hk⟩; omega))
    (fun k A C row hs hg hr => by obtain ⟨lv, fv', h, h2⟩ := hs; exact ⟨lv, fv', h.grown hB0 hg hr, h2⟩)
    (fun k x _ A C row hs hg hr => by obtain ⟨lv, fv', p, h, h2⟩ := hs; exact ⟨lv, fv', p, h.grown hB0 hg hr, h2⟩)
    (fun c A C row hs hg hr => by obtain ⟨hc, k, lv, fv', h, h2⟩ := hs; exact ⟨hc, k, lv, fv', h.grown hB0 hg hr, h2⟩)
    (fun _ A C row hs hg hr => by obtain ⟨lv, fv', h, h2⟩ := hs; exact ⟨lv, fv', h.grown hB0 hg hr, h2⟩)
    ⟨_, _, HT0.out, Nat.zero_le _, hm⟩
    (fun x => { tmps := #[.pointer (some ⟨sb, 0, none⟩), .int .i64 most, undef, .pointer (some ⟨w.heap.size, 0, none⟩), .slice none 0 0, .bool false, .pointer (some ⟨w.heap.size + 1, 0, none⟩), .func (.func 41) #[] #[.pointer (some ⟨w.heap.size + 1 + 1, 0, none⟩)], x, .pointer (some ⟨sb, 0, none⟩), .func (.func 41) #[] #[.pointer (some ⟨w.heap.size + 1 + 1, 0, none⟩)], .func (.func 41) #[] #[.pointer (some ⟨w.heap.size + 1 + 1, 0, none⟩)], .bool false, .int .i64 most, .bool (decide (most ≤ 0)), undef, .func (.func 41) #[] #[.pointer (some ⟨w.heap.size + 1 + 1, 0, none⟩)], x, undef, undef, undef, undef, undef, undef, undef, undef, undef], defers := [] }) ?assign ?body ?done ?stop
  case takes =>
    rintro k W ⟨lv, fv', hT, hk, hkm⟩
    refine ⟨bx hT, (take_st sb sk rv fv' xs _ W hT.st).mono ?_⟩
    rintro e W' (⟨hd, rfl, rfl⟩ | ⟨p, rest, fv2, hd, rfl, ht⟩)
    · have hkl : k = fs.length := by have := List.drop_eq_nil_iff.1 hd; omega
      subst hkl
      exact ⟨KeepsOthers.refl _, .inl ⟨rfl, lv, fv', hT, hkm⟩⟩
    · obtain ⟨h1, h2, h3⟩ := hT.take hd ht hfl
      obtain ⟨a, nn, c, hp⟩ := owns_slice ht.own
      refine ⟨h3, .inr ⟨a, nn, c, by rw [hp], lv, fv2, p, h1, h2, hp.symm, hkm⟩⟩
  case assign =>
    intro l x W K hK
    gi_wp2
    exact hK
  case body =>
    rintro l k x W hlB ⟨r, hr⟩ ⟨lv, fv', p, hT, hp, rfl, hkm⟩
    have hkl : k < fs.length := (List.getElem?_eq_some_iff.1 hp).1
    have HT : Hid _ := hT
    have hc : W.cell? ⟨w.heap.size + 1, 0, none⟩ = some lv := (cell_blk hT.bl 0).trans rfl
    have hcm : W.cell? ⟨w.heap.size, 0, none⟩ = some (.int .i64 most) := (cell_blk hT.bm 0).trans rfl
    have hcf : W.frozen? ⟨w.heap.size + 1, 0, none⟩ = false := frozen_blk hT.bl 0
    have hW2 : w.heap.size + 2 < W.heap.size := by have := lt_of_blk hT.bs; omega
    obtain ⟨la, ln, lc, hlv⟩ := owns_slice hT.row
    have hpo : ∃ a n c, p.1 = .slice a n c := owns_slice (hT.each p (by rw [List.take_add_one, hp]; simp))
    obtain ⟨pa, pn, pc, hpv⟩ := hpo
    rw [hpv]
    subst hlv
    obtain ⟨VL, hVL⟩ : ∃ VL : List Value, VL = (fs.take k).map (fun p => p.1) := ⟨_, rfl⟩
    have HVL : Hid (VL = (fs.take k).map (fun p => p.1)) := hVL
    have HROW : Hid ((W.alloc (.cells #[.slice pa pn pc] 26)).ownsRow w.heap.size 26 1 (.slice la ln lc) k VL) := by rw [hVL]; exact hT.row.alloc (.cells #[.slice pa pn pc] 26)
    clear hVL
    have hws : w.heap.size ≤ (W.alloc (.cells #[.slice pa pn pc] 26)).heap.size := by rw [World.size_alloc]; omega
    clear hT HT0 bx heq h
    gi_wp2_with (gi_at_builtin; refine wpListIn_append_own _ rfl _ _ 22 rfl w.heap.size 26 i0 (.slice none 0 0) 1 24 Try.underlying22 hi hz0 hz1 hz2 rfl (by decide) (.slice la ln lc) k VL rfl HROW.out ⟨W.heap.size, 0, none⟩ 1 1 [.slice pa pn pc] rfl rfl (cell_one_new _ _ _) (by simp [Value.oneCell']) (by unfold maxLen; omega) (by omega) hws ?_; intro v' w1 hown' hgrow _; obtain ⟨g', cap', rfl⟩ := ownsRow_succ hown'; obtain ⟨hq1, hq2, hq3, hq4⟩ := Tk.put HT.out hp hfl (by rw [hpv, ← HVL.out]; exact hown') (by rw [hpv]; exact hgrow) hW2; have HQ1 : Hid _ := hq1; have HQ2 : Hid _ := hq2; have hn1 : w1.cell? ⟨w.heap.size + 1, 0, none⟩ = some (.slice la ln lc) := (cell_blk hq3 0).trans rfl; have hn2 : w1.frozen? ⟨w.heap.size + 1, 0, none⟩ = false := frozen_blk hq3 0; clear hown' hgrow hq1 hq2 hq3)
    · have hlast : most ≤ (k : Int) + 1 := by assumption
      exact ⟨HQ2.out.from _, rfl, k + 1, _, _, HQ1.out, hkl, by omega⟩
    · have hmore : (k : Int) + 1 < most := by assumption
      exact ⟨HQ2.out.from _, k + 1, ⟨rfl, hkl⟩, _, _, HQ1.out, hkl, by omega⟩
  case done =>
    rintro D W hD ⟨lv, fv', hT, hlt⟩ hK
    have hc : W.cell? ⟨w.heap.size + 1, 0, none⟩ = some lv := (cell_blk hT.bl 0).trans rfl
    have HT : Hid _ := hT
    obtain ⟨la, ln, lc, hlv⟩ := owns_slice hT.row
    subst hlv
    clear hT HT0 bx heq h
    gi_wp2
    refine ⟨by simp, .inl ⟨_, _, rfl, run_takeDeferred hK, ?_⟩⟩
    exact ⟨_, results_tmp2 rfl _ _ _, fs.length, _, _, rfl, Nat.le_refl _, by omega, fun _ => rfl, HT.out.fr' (Fr.of_grown (grownBy_putObj' W D (.deferred none))) (fun b o e ho => by cases e; rw [hK] at ho; cases ho; rfl) (fun b e => by cases e; omega)⟩
  case stop =>
    rintro D c W hD ⟨rfl, k, lv, fv', hT, hk, hkm⟩ hK
    have hc : W.cell? ⟨w.heap.size + 1, 0, none⟩ = some lv := (cell_blk hT.bl 0).trans rfl
    have HT : Hid _ := hT
    obtain ⟨la, ln, lc, hlv⟩ := owns_slice hT.row
    subst hlv
    clear hT HT0 bx heq h
    gi_wp2
    refine ⟨by simp, .inl ⟨_, _, rfl, run_takeDeferred hK, ?_⟩⟩
    exact ⟨_, results_tmp2 rfl _ _ _, k, _, _, rfl, hk, by omega, fun h => by omega, HT.out.fr' (Fr.of_grown (grownBy_putObj' W D (.deferred none))) (fun b o e ho => by cases e; rw [hK] at ho; cases ho; rfl) (fun b e => by cases e; omega)⟩
end Go.Proofs.Ytdjibjmhjofedac
