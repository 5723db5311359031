/-
  Rows of elements of several cells.
-/
import Derived.Test.YtlbhnlpdijhmlaaVBase
import Derived.ArgAppend
namespace Go.Proofs.Ytlbhnlpdijhmlaa
open Go.RowKit
set_option linter.unusedVariables false
set_option linter.unusedSimpArgs false

theorem RowAt.form {α : Type} {w : World} {S : Nat → Prop} {sz : Nat} {E : Nat → Nat → α → Prop} {v : Value} {l : List α} (h : RowAt w S sz E v l) : ∃ a c, v = .slice a l.length c ∧ l.length ≤ c := by
  obtain ⟨a, c, hv, hc, _⟩ := h
  exact ⟨a, c, hv, hc⟩
theorem RowAt.get {α : Type} {w : World} {S : Nat → Prop} {sz : Nat} {E : Nat → Nat → α → Prop} {a : Option Addr} {n c : Nat} {l : List α} (h : RowAt w S sz E (.slice a n c) l) {i : Nat} {x : α} (hx : l[i]? = some x) : ∃ b o, a = some ⟨b, o, none⟩ ∧ S b ∧ b < w.heap.size ∧ E b (o + i * sz) x := by
  obtain ⟨a', c', hv, _, _, hr⟩ := h
  cases hv
  rcases hr with h | ⟨b, o, rfl, hS, hlt, hE⟩
  · rw [h] at hx; cases hx
  · exact ⟨b, o, rfl, hS, hlt, hE i x hx⟩
theorem cell_blkD {w : World} {g : Nat} {cur : Array Value} {e : TypeId} {fz : Nat × Nat} (h : w.heap[g]? = some (.cells cur e fz)) (o : Nat) : w.cell? ⟨g, o, none⟩ = cur[o]? := by
  unfold World.cell?
  rw [h]
  rfl
theorem set_at {w : World} {g o : Nat} {arr : Array Value} {t : TypeId} {x : Value} (h : w.heap[g]? = some (.cells arr t (0, 0))) : (w.setCell ⟨g, o, none⟩ x).heap[g]? = some (.cells (arr.setIfInBounds o x) t (0, 0)) := heap_setCell_same w g o arr t x h
theorem cell_of {w : World} {g o : Nat} {arr : Array Value} {t : TypeId} (h : w.heap[g]? = some (.cells arr t (0, 0))) : w.cell? ⟨g, o, none⟩ = arr[o]? := by simp [World.cell?, h]
theorem free_of {w : World} {g : Nat} {arr : Array Value} {t : TypeId} (h : w.heap[g]? = some (.cells arr t (0, 0))) (o : Nat) : w.frozen? ⟨g, o, none⟩ = false := by simp [World.frozen?, h]
theorem chg_put3 (w : World) (g : Nat) (x0 x1 x2 : Value) : Chg w (put_3 w g x0 x1 x2) (fun k => k = g) :=
  ((Chg.set w ⟨g, 0, none⟩ x0).trans (Chg.set _ ⟨g, 1, none⟩ x1)).trans (Chg.set _ ⟨g, 2, none⟩ x2)
theorem flat_at {α : Type} {cells : α → List Value} {sz : Nat} (hsz : ∀ x, (cells x).length = sz) : ∀ {L : List α} {i : Nat} {x : α} {j : Nat} {u : Value}, L[i]? = some x → (cells x)[j]? = some u → (L.flatMap cells)[i * sz + j]? = some u
  | [], i, x, j, u, h, _ => by simp at h
  | y :: L, 0, x, j, u, h, hu => by
    obtain rfl : y = x := by simpa using h
    rw [List.flatMap_cons, Nat.zero_mul, Nat.zero_add, List.getElem?_append_left (by rw [hsz]; have := (List.getElem?_eq_some_iff.1 hu).1; rw [hsz] at this; exact this)]
    exact hu
  | y :: L, i + 1, x, j, u, h, hu => by
    have h' : L[i]? = some x := by simpa using h
    rw [List.flatMap_cons, List.getElem?_append_right (by rw [hsz, Nat.add_mul]; omega), hsz, show (i + 1) * sz + j - sz = i * sz + j by rw [Nat.add_mul]; omega]
    exact flat_at hsz h' hu
theorem flat_len {α : Type} {cells : α → List Value} {sz : Nat} (hsz : ∀ x, (cells x).length = sz) : ∀ L : List α, (L.flatMap cells).length = L.length * sz
  | [] => by simp
  | y :: L => by rw [List.flatMap_cons, List.length_append, hsz, flat_len hsz L, List.length_cons, Nat.add_mul]; omega
theorem row_cells {α : Type} {w : World} {base e sz : Nat} {v : Value} {cells : α → List Value} {L : List α} (hsz : ∀ x, (cells x).length = sz) (h : w.ownsRow base e sz v L.length (L.flatMap cells)) :
    ∃ a c, v = .slice a L.length c ∧ L.length ≤ c ∧ (a = none → c = 0) ∧ (L = [] ∨ ∃ g, a = some ⟨g, 0, none⟩ ∧ v.ownBlock = some g ∧ base ≤ g ∧ g < w.heap.size ∧ ∀ i x, L[i]? = some x → ∀ j u, (cells x)[j]? = some u → w.cell? ⟨g, 0 + i * sz + j, none⟩ = some u) := by
  rcases h.2 with ⟨rfl, h0⟩ | ⟨g, cap, cur, rfl, hb, hg, hn, hc, hs, ht⟩
  · exact ⟨none, 0, by rw [h0], by omega, fun _ => rfl, .inl (List.eq_nil_of_length_eq_zero h0)⟩
  · refine ⟨_, cap, rfl, hn, (fun h => by cases h), ?_⟩
    rcases Nat.eq_zero_or_pos L.length with h0 | h0
    · exact .inl (List.eq_nil_of_length_eq_zero h0)
    · refine .inr ⟨g, rfl, rfl, hb, lt_of_blk hg, fun i x hi j u hj => ?_⟩
      have h1 := flat_at hsz hi hj
      have hlt := (List.getElem?_eq_some_iff.1 h1).1
      rw [flat_len hsz] at hlt
      rw [← ht, List.getElem?_take, if_pos hlt, Array.getElem?_toList] at h1
      rw [Nat.zero_add, cell_blkD hg]
      exact h1
/-- What a list's own block is. -/
theorem row_block {w : World} {base e sz n : Nat} {v : Value} {xs : List Value} (h : w.ownsRow base e sz v n xs) : ∀ k, v.ownBlock = some k → base ≤ k ∧ k < w.heap.size := by
  intro k hk
  rcases h.2 with ⟨rfl, _⟩ | ⟨g, cap, cur, rfl, hb, hg, _⟩
  · cases hk
  · cases hk
    exact ⟨hb, lt_of_blk hg⟩
theorem row_chg {w w' : World} {base e sz n : Nat} {v : Value} {xs : List Value} {S : Nat → Prop} (h : w.ownsRow base e sz v n xs) (hc : Chg w w' S) (hS : ∀ k, v.ownBlock = some k → ¬ S k) : w'.ownsRow base e sz v n xs :=
  owns_same h (fun k hk => hc.block k (row_block h k hk).2 (hS k hk))
/-- One more behind a list of elements of several cells. -/
theorem wpList_row {tS tE sz bt : Nat} {z : Value} (hu : Try.prog.underlying tS = some (.slice tE)) (hinfo : (Try.prog.info? tE).map (fun i => (i.zero, i.size, i.bytes)) = some (some z, sz, bt)) (hzs : z.cells.size = sz) (h0 : 0 < sz)
    {w : World} {ops : Array Oper} {rest : List Oper} {o : Oper} {act : Act} {Q : Exit → Act → World → Prop} (hgd : o.guard = none) (s x : Operand) (ho : o.op = .call { callee := .builtin .append, args := #[s, x], argTypes := #[tS, tS] })
    (base : Nat) (v : Value) (n : Nat) (xs : List Value) (hs : act.eval s = v) (hown : w.ownsRow base tE sz v n xs) (g c : Nat) (news : List Value) (hx : act.eval x = .slice (some ⟨g, 0, none⟩) 1 c) (hg : w.heap[g]? = some (.cells news.toArray tE (0, 0))) (hl : news.length = sz) (h1 : ∀ u ∈ news, u.oneCell' = true)
    (hb1 : n + 1 ≤ maxLen) (hb2 : (n + 1) * bt ≤ 140737488355328) (hB : base ≤ w.heap.size)
    (h : ∀ v' w', w'.ownsRow base tE sz v' (n + 1) (xs ++ news) → w.grownBy w' v.ownBlock → (v'.ownBlock = v.ownBlock ∨ v'.ownBlock = some w.heap.size) → wpList Try.prog ops Q rest (act.put o.dst v') w') : wpList Try.prog ops Q (o :: rest) act w := by
  cases hi : Try.prog.info? tE with
  | none => rw [hi] at hinfo; cases hinfo
  | some i0 =>
    rw [hi] at hinfo
    simp only [Option.map_some, Option.some.injEq, Prod.mk.injEq] at hinfo
    refine wpList_append_own_at _ hgd s x tS ho base tE i0 _ sz bt hu hi hinfo.1 hinfo.2.1 hinfo.2.2 hzs h0 v n xs hs hown ⟨g, 0, none⟩ 1 c news hx (by rw [hl, Nat.one_mul]) (fun j u hj => ?_) h1 hb1 hb2 hB ?_
    · rw [addr_add, Nat.zero_add, cell_blkD hg]
      simpa using hj
    · intro v' w' ho' hg' _ hat'
      exact h v' w' ho' hg' hat'
abbrev vwCs (t : VwT) : List Value := [.int .i64 t.n, .int .i64 t.p, .int .i64 t.b]
theorem vws_row {w : World} {base : Nat} {v : Value} {l : List VwT} {S : Nat → Prop} (h : w.ownsRow base 28 3 v l.length (l.flatMap vwCs)) (hS : ∀ k, v.ownBlock = some k → S k) : VwsAt w S v l := by
  obtain ⟨a, c, rfl, hc, hn, hr⟩ := row_cells (cells := vwCs) (fun _ => rfl) h
  refine ⟨a, c, rfl, hc, hn, ?_⟩
  rcases hr with h | ⟨g, rfl, ho, _, hlt, hx⟩
  · exact .inl h
  · exact .inr ⟨g, 0, rfl, hS g ho, hlt, fun i x hi => ⟨hx i x hi 0 _ rfl, hx i x hi 1 _ rfl, hx i x hi 2 _ rfl⟩⟩
theorem Try.info_vw : (Try.prog.info? 28).map (fun i => (i.zero, i.size, i.bytes)) = some (some (.agg #[.int .i64 0, .int .i64 0, .int .i64 0]), 3, 24) := by kernel_rfl
theorem results_cell_tmp {P : Program} {fn : Func} {p q : Tmp} {ty : TypeId} (h : fn.results = #[.cell p ty, .tmp q]) (tmps : Array Value) (w : World) (g : Nat) (t : TypeId) (cs : Array Value) (fr : Nat × Nat) (d : TypeDesc) (v : Value)
    (hp : tmps.getD p undef = .pointer (some ⟨g, 0, none⟩)) (hq : tmps.getD q undef = v) (hg : w.heap[g]? = some (.cells cs t fr))
    (hu : P.underlying ty = some d) (hd : (match d with | .struct _ | .array _ _ => true | _ => false) = true) (hi : (P.info? ty).map (·.size) = some cs.size) :
    (results fn tmps).run P w = .ok (.tuple #[.agg cs, v]) w := by
  have hp' : tmps[p]?.getD undef = .pointer (some ⟨g, 0, none⟩) := by simpa using hp
  have hq' : tmps[q]?.getD undef = v := by simpa using hq
  simp [results, h, hp', hq', asAddr, run_loadVar_row w g t ty cs fr d hg hu hd hi]
theorem results_cell {P : Program} {fn : Func} {p : Tmp} {ty : TypeId} (h : fn.results = #[.cell p ty]) (tmps : Array Value) (w : World) (g : Nat) (t : TypeId) (cs : Array Value) (fr : Nat × Nat) (d : TypeDesc)
    (hp : tmps.getD p undef = .pointer (some ⟨g, 0, none⟩)) (hg : w.heap[g]? = some (.cells cs t fr))
    (hu : P.underlying ty = some d) (hd : (match d with | .struct _ | .array _ _ => true | _ => false) = true) (hi : (P.info? ty).map (·.size) = some cs.size) :
    (results fn tmps).run P w = .ok (.agg cs) w := by
  have hp' : tmps[p]?.getD undef = .pointer (some ⟨g, 0, none⟩) := by simpa using hp
  simp [results, h, hp', asAddr, run_loadVar_row w g t ty cs fr d hg hu hd hi]
end Go.Proofs.Ytlbhnlpdijhmlaa
