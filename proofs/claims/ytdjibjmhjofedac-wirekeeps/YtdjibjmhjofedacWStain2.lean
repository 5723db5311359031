/-
  stained: lists that are gone on from.
-/
import Derived.Test.YtdjibjmhjofedacWStain1
import Derived.ArgAppend
namespace Go.Proofs.Ytdjibjmhjofedac
open Go.RowKit
set_option linter.unusedVariables false

theorem owns_prefix {w : World} {B e g n m cap : Nat} {xs news : List Value} (hx : xs.length = n) (h : w.ownsRow B e 1 (.slice (some ⟨g, 0, none⟩) (n + m) cap) (n + m) (xs ++ news)) : w.ownsRow B e 1 (.slice (some ⟨g, 0, none⟩) n cap) n xs := by
  refine ⟨by omega, .inr ?_⟩
  rcases h.2 with ⟨h0, _⟩ | ⟨g', cap', cur, hv, hB, hg, h1, h2, h3, h4⟩
  · cases h0
  · simp only [Value.slice.injEq, Option.some.injEq, Addr.mk.injEq, and_true, true_and] at hv
    obtain ⟨rfl, rfl⟩ := hv
    refine ⟨g, cap, cur, rfl, hB, hg, by omega, h2, h3, ?_⟩
    have e1 : (cur.toList.take ((n + m) * 1)).take n = cur.toList.take n := by rw [List.take_take, Nat.min_eq_left (by omega)]
    have e2 : (xs ++ news).take n = xs := by rw [← hx, List.take_left]
    rw [Nat.mul_one, ← e1, h4, e2]

theorem wpList_append_rows {P : Program} (w : World) {ops : Array Oper} {rest : List Oper} {o : Oper} {a : Act} {Q : Exit → Act → World → Prop} (hgd : o.guard = none) (s x : Operand) (t : TypeId)
    (ho : o.op = .call { callee := .builtin .append, args := #[s, x], argTypes := #[t, t] })
    (e : TypeId) (i : TypeInfo) (z : Value) (bytes : Nat) (ht : P.underlying t = some (.slice e)) (hi : P.info? e = some i) (hz : i.zero = some z)
    (hsize : i.size = 1) (hby : i.bytes = bytes) (hzs : z.cells.size = 1)
    (v : Value) (n : Nat) (xs : List Value) (hs : a.eval s = v) (hown : w.ownsRow 0 e 1 v n xs)
    (ad : Addr) (m c : Nat) (news : List Value) (hx : a.eval x = .slice (some ad) m c) (hl : news.length = m * 1) (hnews : ∀ j u, news[j]? = some u → w.cell? (ad.add j) = some u) (h1 : ∀ u ∈ news, u.oneCell' = true)
    (hm : 0 < m) (h63 : n + m ≤ maxLen) (hbytes : (n + m) * bytes ≤ 140737488355328)
    (h : ∀ g cap w', w'.ownsRow 0 e 1 (.slice (some ⟨g, 0, none⟩) (n + m) cap) (n + m) (xs ++ news) → ((v = .slice (some ⟨g, 0, none⟩) n cap ∧ w.grownBy w' (some g)) ∨ (w.heap.size ≤ g ∧ w.grownBy w' none)) →
      wpList P ops Q rest (a.put o.dst (.slice (some ⟨g, 0, none⟩) (n + m) cap)) w') :
    wpList P ops Q (o :: rest) a w := by
  have hgrow : ∀ v' w', w'.ownsRow w.heap.size e 1 v' (n + m) (xs ++ news) → w.grownBy w' none → wpList P ops Q rest (a.put o.dst v') w' := by
    intro v' w' h2 h3
    rcases h2.2 with ⟨_, h0⟩ | ⟨g, cap, cur, rfl, h5, h6⟩
    · omega
    · exact h g cap w' (owns_low h2 (Nat.zero_le _)) (.inr ⟨h5, h3⟩)
  rcases hown.2 with ⟨rfl, rfl⟩ | ⟨g, cap, cur, rfl, hbg, hg, hnc, hcm, hcs, htake⟩
  · have hx0 : xs = [] := List.eq_nil_of_length_eq_zero (by simpa using hown.1)
    subst hx0
    exact wpList_append_grows w hgd s x t ho e i z 1 bytes ht hi hz hsize hby hzs (by decide) none 0 0 [] hs (fun _ => ⟨rfl, rfl⟩) rfl (fun b hb => by cases hb) ad m c news hx hl hnews h1 (by omega) h63 hbytes hgrow
  · by_cases hroom : n + m ≤ cap
    · refine wpList_append_fits w hgd s x t ho 0 e i 1 ht hi hsize g n cap xs hs hown ad m c news hx hl hnews h1 hroom ?_
      intro w' h2 h3
      exact h g cap w' h2 (.inl ⟨rfl, h3⟩)
    · exact wpList_append_grows w hgd s x t ho e i z 1 bytes ht hi hz hsize hby hzs (by decide) (some ⟨g, 0, none⟩) n cap xs hs (fun h => by cases h) hown.1 (fun b hb => by cases hb; exact hown.cells (g := g) rfl) ad m c news hx hl hnews h1 (by omega) h63 hbytes hgrow

/-- A list, gone on from p times. -/
structure Grk (Wi : World) (e : En) (zs : List Int) (x : Int) (p : Nat) (gval : Value) (W : World) : Prop where
  fr : Fr (fun b => e.1.ownBlock = some b) Wi W
  row : W.ownsRow 0 5 1 gval (e.2.1 + p) (bv (zs ++ List.replicate p x))
  old : W.ownsRow 0 5 1 e.1 e.2.1 (bv zs)
  alt : (∃ a c, e.1 = .slice a e.2.1 c ∧ gval = .slice a (e.2.1 + p) c) ∨ (∃ k, gval.ownBlock = some k ∧ Wi.heap.size ≤ k)

theorem Grk.next {Wi W w2 : World} {e : En} {zs : List Int} {x : Int} {p g' cap' : Nat} {gval : Value} {o : Obj} (h : Grk Wi e zs x p gval W) (hz : zs.length = e.2.1) (hold : ∀ k, e.1.ownBlock = some k → k < Wi.heap.size)
    (hown : w2.ownsRow 0 5 1 (.slice (some ⟨g', 0, none⟩) (e.2.1 + p + 1) cap') (e.2.1 + p + 1) (bv (zs ++ List.replicate p x) ++ [.int .u8 x]))
    (halt : (gval = .slice (some ⟨g', 0, none⟩) (e.2.1 + p) cap' ∧ (W.alloc o).grownBy w2 (some g')) ∨ ((W.alloc o).heap.size ≤ g' ∧ (W.alloc o).grownBy w2 none)) :
    Grk Wi e zs x (p + 1) (.slice (some ⟨g', 0, none⟩) (e.2.1 + p + 1) cap') w2 := by
  have s1 := h.fr.size
  have hbv : bv (zs ++ List.replicate p x) ++ [.int .u8 x] = bv (zs ++ List.replicate (p + 1) x) := by
    rw [List.replicate_succ', ← List.append_assoc]
    unfold bv
    simp
  have hfa : Fr (fun _ => False) W (W.alloc o) := Fr.of_below ((Below.refl _ W).alloc (Nat.le_refl _) o) _
  have hrow : w2.ownsRow 0 5 1 (.slice (some ⟨g', 0, none⟩) (e.2.1 + (p + 1)) cap') (e.2.1 + (p + 1)) (bv (zs ++ List.replicate (p + 1) x)) := by rw [← hbv]; exact hown
  rcases halt with ⟨hg, hgr⟩ | ⟨hge, hgr⟩
  · have hgb : gval.ownBlock = some g' := by rw [hg]; rfl
    have hf2 : Fr (fun k => k = g') W w2 := (hfa.mono (fun _ e => e.elim)).trans (Fr.of_grown hgr) (fun k e => .inl (by cases e; rfl))
    rcases h.alt with ⟨a, c, ha1, ha2⟩ | ⟨k, hk, hN⟩
    · rw [ha2] at hg
      simp only [Value.slice.injEq, true_and] at hg
      obtain ⟨rfl, rfl⟩ := hg
      refine ⟨h.fr.trans hf2 (fun k e' => .inl (by rw [ha1, show k = g' from e']; rfl)), hrow, ?_, .inl ⟨_, _, ha1, rfl⟩⟩
      rw [ha1]
      refine owns_prefix (m := p + 1) (news := bv (List.replicate (p + 1) x)) (by rw [bv_len]; exact hz) ?_
      rw [← bv_append]
      exact hrow
    · rw [hgb] at hk
      cases hk
      refine ⟨h.fr.trans hf2 (fun k e' => .inr (by rw [show k = g' from e']; exact hN)), hrow, owns_fr h.old hf2 (fun k hk e' => ?_), .inr ⟨g', rfl, hN⟩⟩
      have := hold k hk
      have : k = g' := e'
      omega
  · have hf2 : Fr (fun _ => False) W w2 := hfa.trans (Fr.of_grown hgr) (fun k e => by cases e)
    rw [World.size_alloc] at hge
    exact ⟨h.fr.trans hf2 (fun _ e => e.elim), hrow, owns_fr h.old hf2 (fun _ _ e => e), .inr ⟨g', rfl, by omega⟩⟩

/-- The tail of list j. -/
def tailV (j : Nat) : Int := ((242 + j % 13 : Nat) : Int)

/-- The lists below i are gone on from. -/
structure Grn (WB : World) (N : Nat → Nat) (g : Nat) (es : List En) (i : Nat) (gv : Nat → Value) (W : World) : Prop where
  fr : Fr (fun b => b = g ∨ LB es b) WB W
  bk : Bk W g es gv
  ls : ∀ (j : Nat) (e : En), es[j]? = some e → W.ownsRow 0 5 1 e.1 e.2.1 (bv (stains (N j) e.2.1))
  gs : ∀ (j : Nat) (e : En), es[j]? = some e → j < i → W.ownsRow 0 5 1 (gv j) (e.2.1 + 96) (bv (stains (N j) e.2.1 ++ List.replicate 96 (tailV j))) ∧ ((gv j).ownBlock = e.1.ownBlock ∨ ∃ k, (gv j).ownBlock = some k ∧ WB.heap.size ≤ k)

theorem Grn.begin {WB W : World} {N : Nat → Nat} {g i : Nat} {es : List En} {gv : Nat → Value} {e : En} (h : Grn WB N g es i gv W) (he : es[i]? = some e) : Grk W e (stains (N i) e.2.1) (tailV i) 0 e.1 W := by
  refine ⟨Fr.refl _ _, by simpa using h.ls i e he, h.ls i e he, .inl ?_⟩
  rcases (h.ls i e he).2 with ⟨h1, h2⟩ | ⟨g', cap', cur, h1, _⟩
  · exact ⟨none, 0, by rw [h1, h2], by rw [h1, h2]⟩
  · exact ⟨_, _, h1, h1⟩

theorem Bk.ne {w : World} {g : Nat} {es : List En} {gv : Nat → Value} (h : Bk w g es gv) {n : Nat} {v : Value} {vals : List Value} {base : Nat} (hv : w.ownsRow base 5 1 v n vals) : v.ownBlock ≠ some g := fun e => by
  obtain ⟨cur, hg, _⟩ := h.blk
  obtain ⟨_, _, cur', hc⟩ := owns_kind hv g e
  rw [hg] at hc
  cases hc

theorem Grn.next {WB W W' : World} {N : Nat → Nat} {g i : Nat} {es : List En} {gv : Nat → Value} {e : En} {gval : Value} (h : Grn WB N g es i gv W) (ha : Ap es) (he : es[i]? = some e) (hlt : ∀ b, LB es b → b < WB.heap.size) (hk : Grk W e (stains (N i) e.2.1) (tailV i) 96 gval W') :
    Grn WB N g es (i + 1) (fun j => if j = i then gval else gv j) (W'.setCell ⟨g, i * 3 + 2, none⟩ gval) := by
  have hle : LB es = LB es := rfl
  have hgne : e.1.ownBlock ≠ some g := h.bk.ne (h.ls i e he)
  have hbk' : Bk W' g es gv := h.bk.fr hk.fr hgne
  have hfs := Fr.of_setCell W' ⟨g, i * 3 + 2, none⟩ gval
  have hmem : e ∈ es := List.mem_of_getElem? he
  have ls' : ∀ (j : Nat) (d : En), es[j]? = some d → W'.ownsRow 0 5 1 d.1 d.2.1 (bv (stains (N j) d.2.1)) := fun j d hd => by
    by_cases hj : j = i
    · subst hj; rw [he] at hd; cases hd; exact hk.old
    · exact owns_fr (h.ls j d hd) hk.fr (fun b hb hs => ha i j e d he hd (Ne.symm hj) b hs hb)
  have up : ∀ {v : Value} {n : Nat} {vals : List Value}, W'.ownsRow 0 5 1 v n vals → (W'.setCell ⟨g, i * 3 + 2, none⟩ gval).ownsRow 0 5 1 v n vals := fun hv => owns_fr hv hfs (fun b hb hs => hbk'.ne hv (by rw [← show b = g from hs]; exact hb))
  refine ⟨(h.fr.trans hk.fr (fun b hb => .inl (.inr ⟨e, hmem, hb⟩))).trans hfs (fun b hb => .inl (.inl hb)), hbk'.put he gval, fun j d hd => up (ls' j d hd), fun j d hd hj => ?_⟩
  by_cases hji : j = i
  · subst hji
    rw [he] at hd
    cases hd
    refine ⟨by simpa using up hk.row, ?_⟩
    have hs := h.fr.size
    rcases hk.alt with ⟨a, c, h1, h2⟩ | ⟨k, h1, h2⟩
    · left
      simp only [if_true]
      rw [h1, h2]
      cases a <;> rfl
    · right
      exact ⟨k, by simpa using h1, by omega⟩
  · obtain ⟨h1, h2⟩ := h.gs j d hd (by omega)
    simp only [if_neg hji]
    refine ⟨up (owns_fr h1 hk.fr (fun b hb hs => ?_)), h2⟩
    rcases h2 with h2 | ⟨k, h2, h3⟩
    · rw [h2] at hb
      exact ha i j e d he hd (Ne.symm hji) b hs hb
    · rw [h2] at hb
      cases hb
      have := hlt b ⟨e, hmem, hs⟩
      omega

theorem Grn.start {WB : World} {N : Nat → Nat} {g : Nat} {es : List En} {gv : Nat → Value} (hb : Bk WB g es gv) (hw : Wrt N es es.length WB) : Grn WB N g es 0 gv WB := by
  refine ⟨Fr.refl _ _, hb, fun j e he => ?_, fun j e he hj => by omega⟩
  obtain ⟨zs, h1, h2, h3⟩ := hw j e he
  rw [h3 (List.getElem?_eq_some_iff.1 he).1] at h2
  exact h2
end Go.Proofs.Ytdjibjmhjofedac
