/-
  Lists that are made by appends, element by element.
-/
import Derived.Test.YtlidkieljiebiaaQKnown
import Derived.Test.YtlidkieljiebiaaQDeq
namespace Go.Proofs.Ytlidkieljiebiaa
open Go.RowKit
set_option linter.unusedVariables false
set_option linter.unusedSimpArgs false

theorem flat_at {α : Type} {cells : α → List Value} {sz : Nat} (hsz : ∀ x, (cells x).length = sz) : ∀ {L : List α} {i : Nat} {x : α} {j : Nat} {u : Value}, L[i]? = some x → (cells x)[j]? = some u → (L.flatMap cells)[i * sz + j]? = some u
  | [], i, x, j, u, h, _ => by simp at h
  | y :: L, 0, x, j, u, h, hu => by
    obtain rfl : y = x := by simpa using h
    rw [List.flatMap_cons, Nat.zero_mul, Nat.zero_add, List.getElem?_append_left (by rw [hsz]; have := (List.getElem?_eq_some_iff.1 hu).1; rw [hsz] at this; exact this)]
    exact hu
  | y :: L, i + 1, x, j, u, h, hu => by
    have h' : L[i]? = some x := by simpa using h
    rw [List.flatMap_cons, List.getElem?_append_right (by rw [hsz, Nat.add_mul]; omega), hsz, show (i + 1) * sz + j - sz = i * sz + j by rw [Nat.add_mul]; omega]
    exact flat_at hsz h' hu
theorem flat_len {α : Type} {cells : α → List Value} {sz : Nat} (hsz : ∀ x, (cells x).length = sz) : ∀ L : List α, (L.flatMap cells).length = L.length * sz
  | [] => by simp
  | y :: L => by rw [List.flatMap_cons, List.length_append, hsz, flat_len hsz L, List.length_cons, Nat.add_mul]; omega
theorem row_cells {α : Type} {w : World} {base e sz : Nat} {v : Value} {cells : α → List Value} {L : List α} (hsz : ∀ x, (cells x).length = sz) (h : w.ownsRow base e sz v L.length (L.flatMap cells)) :
    ∃ a c, v = .slice a L.length c ∧ L.length ≤ c ∧ (a = none → c = 0) ∧ (L = [] ∨ ∃ g, a = some ⟨g, 0, none⟩ ∧ v.ownBlock = some g ∧ base ≤ g ∧ g < w.heap.size ∧ ∀ i x, L[i]? = some x → ∀ j u, (cells x)[j]? = some u → w.cell? ⟨g, 0 + i * sz + j, none⟩ = some u) := by
  rcases h.2 with ⟨rfl, h0⟩ | ⟨g, cap, cur, rfl, hb, hg, hn, hc, hs, ht⟩
  · exact ⟨none, 0, by rw [h0], by omega, fun _ => rfl, .inl (List.eq_nil_of_length_eq_zero h0)⟩
  · refine ⟨_, cap, rfl, hn, (fun h => by cases h), ?_⟩
    rcases Nat.eq_zero_or_pos L.length with h0 | h0
    · exact .inl (List.eq_nil_of_length_eq_zero h0)
    · refine .inr ⟨g, rfl, rfl, hb, lt_of_blk hg, fun i x hi j u hj => ?_⟩
      have h1 := flat_at hsz hi hj
      have hlt := (List.getElem?_eq_some_iff.1 h1).1
      rw [flat_len hsz] at hlt
      rw [← ht, List.getElem?_take, if_pos hlt, Array.getElem?_toList] at h1
      rw [Nat.zero_add, cell_blkD hg]
      exact h1
/-- What a list's own block is. -/
theorem row_block {w : World} {base e sz n : Nat} {v : Value} {xs : List Value} (h : w.ownsRow base e sz v n xs) : ∀ k, v.ownBlock = some k → base ≤ k ∧ k < w.heap.size := by
  intro k hk
  rcases h.2 with ⟨rfl, _⟩ | ⟨g, cap, cur, rfl, hb, hg, _⟩
  · cases hk
  · cases hk
    exact ⟨hb, lt_of_blk hg⟩
theorem row_chg {w w' : World} {base e sz n : Nat} {v : Value} {xs : List Value} {S : Nat → Prop} (h : w.ownsRow base e sz v n xs) (hc : Chg w w' S) (hS : ∀ k, v.ownBlock = some k → ¬ S k) : w'.ownsRow base e sz v n xs :=
  owns_same h (fun k hk => hc.block k (row_block h k hk).2 (hS k hk))
/-- One more behind a list of elements of several cells. -/
theorem wpList_row {tS tE sz bt : Nat} {z : Value} (hu : Try.prog.underlying tS = some (.slice tE)) (hinfo : (Try.prog.info? tE).map (fun i => (i.zero, i.size, i.bytes)) = some (some z, sz, bt)) (hzs : z.cells.size = sz) (h0 : 0 < sz)
    {w : World} {ops : Array Oper} {rest : List Oper} {o : Oper} {act : Act} {Q : Exit → Act → World → Prop} (hgd : o.guard = none) (s x : Operand) (ho : o.op = .call { callee := .builtin .append, args := #[s, x], argTypes := #[tS, tS] })
    (base : Nat) (v : Value) (n : Nat) (xs : List Value) (hs : act.eval s = v) (hown : w.ownsRow base tE sz v n xs) (g c : Nat) (news : List Value) (hx : act.eval x = .slice (some ⟨g, 0, none⟩) 1 c) (hg : w.heap[g]? = some (.cells news.toArray tE (0, 0))) (hl : news.length = sz) (h1 : ∀ u ∈ news, u.oneCell' = true)
    (hb1 : n + 1 ≤ maxLen) (hb2 : (n + 1) * bt ≤ 140737488355328) (hB : base ≤ w.heap.size)
    (h : ∀ v' w', w'.ownsRow base tE sz v' (n + 1) (xs ++ news) → w.grownBy w' v.ownBlock → (v'.ownBlock = v.ownBlock ∨ v'.ownBlock = some w.heap.size) → wpList Try.prog ops Q rest (act.put o.dst v') w') : wpList Try.prog ops Q (o :: rest) act w := by
  cases hi : Try.prog.info? tE with
  | none => rw [hi] at hinfo; cases hinfo
  | some i0 =>
    rw [hi] at hinfo
    simp only [Option.map_some, Option.some.injEq, Prod.mk.injEq] at hinfo
    refine wpList_append_own_at _ hgd s x tS ho base tE i0 _ sz bt hu hi hinfo.1 hinfo.2.1 hinfo.2.2 hzs h0 v n xs hs hown ⟨g, 0, none⟩ 1 c news hx (by rw [hl, Nat.one_mul]) (fun j u hj => ?_) h1 hb1 hb2 hB ?_
    · rw [addr_add, Nat.zero_add, cell_blkD hg]
      simpa using hj
    · intro v' w' ho' hg' _ hat'
      exact h v' w' ho' hg' hat'
abbrev tgCs (t : TgT) (u : Value) : List Value := [.int .i64 t.k, .string t.p, .string t.d, .int .i64 t.v, u]
abbrev paCs (t : PaT) (u : Value) : List Value := [.int .i64 t.id, .int .i64 t.st, .string t.p, .int .i64 t.k, u]
abbrev seCs (t : SeT) : List Value := [.string t.p, .string t.d, .int .i64 t.v]
abbrev itCs (t : ItT) (u1 u2 : Value) : List Value := [.int .i64 t.st, .int .i64 t.af, .bool t.mark, u1, u2]
theorem ints_row {w : World} {base : Nat} {v : Value} {l : List Int} {S : Nat → Prop} (h : w.ownsRow base 3 1 v l.length (l.flatMap fun x => [.int .i64 x])) (hS : ∀ k, v.ownBlock = some k → S k) : IntsAt w S v l := by
  obtain ⟨a, c, rfl, hc, hn, hr⟩ := row_cells (cells := fun x : Int => [Value.int .i64 x]) (fun _ => rfl) h
  refine ⟨a, c, rfl, hc, hn, ?_⟩
  rcases hr with h | ⟨g, rfl, ho, _, hlt, hx⟩
  · exact .inl h
  · exact .inr ⟨g, 0, rfl, hS g ho, hlt, fun i x hi => hx i x hi 0 _ rfl⟩
theorem seens_row {w : World} {base : Nat} {v : Value} {l : List SeT} {S : Nat → Prop} (h : w.ownsRow base 119 3 v l.length (l.flatMap seCs)) (hS : ∀ k, v.ownBlock = some k → S k) : SesAt w S v l := by
  obtain ⟨a, c, rfl, hc, hn, hr⟩ := row_cells (cells := seCs) (fun _ => rfl) h
  refine ⟨a, c, rfl, hc, hn, ?_⟩
  rcases hr with h | ⟨g, rfl, ho, _, hlt, hx⟩
  · exact .inl h
  · exact .inr ⟨g, 0, rfl, hS g ho, hlt, fun i x hi => ⟨hx i x hi 0 _ rfl, hx i x hi 1 _ rfl, hx i x hi 2 _ rfl⟩⟩
theorem tags_row {w : World} {base : Nat} {v : Value} {L : List (TgT × Value)} {S : Nat → Prop} (h : w.ownsRow base 88 5 v L.length (L.flatMap fun x => tgCs x.1 x.2)) (hS : ∀ k, v.ownBlock = some k → S k) (he : ∀ x ∈ L, IntsAt w S x.2 x.1.tags) : TgsAt w S v (L.map (·.1)) := by
  obtain ⟨a, c, rfl, hc, hn, hr⟩ := row_cells (cells := fun x : TgT × Value => tgCs x.1 x.2) (fun _ => rfl) h
  refine ⟨a, c, by rw [List.length_map], by rw [List.length_map]; exact hc, hn, ?_⟩
  rcases hr with h | ⟨g, rfl, ho, _, hlt, hx⟩
  · exact .inl (by rw [h]; rfl)
  · refine .inr ⟨g, 0, rfl, hS g ho, hlt, fun i x hi => ?_⟩
    rw [List.getElem?_map] at hi
    cases hy : L[i]? with
    | none => rw [hy] at hi; cases hi
    | some y =>
      rw [hy] at hi
      obtain rfl : y.1 = x := by simpa using hi
      exact ⟨y.2, hx i y hy 0 _ rfl, hx i y hy 1 _ rfl, hx i y hy 2 _ rfl, hx i y hy 3 _ rfl, hx i y hy 4 _ rfl, he y (List.mem_of_getElem? hy)⟩
theorem parts_row {w : World} {base : Nat} {v : Value} {L : List (PaT × Value)} {S : Nat → Prop} (h : w.ownsRow base 96 5 v L.length (L.flatMap fun x => paCs x.1 x.2)) (hS : ∀ k, v.ownBlock = some k → S k) (he : ∀ x ∈ L, SesAt w S x.2 x.1.nodes) : PasAt w S v (L.map (·.1)) := by
  obtain ⟨a, c, rfl, hc, hn, hr⟩ := row_cells (cells := fun x : PaT × Value => paCs x.1 x.2) (fun _ => rfl) h
  refine ⟨a, c, by rw [List.length_map], by rw [List.length_map]; exact hc, hn, ?_⟩
  rcases hr with h | ⟨g, rfl, ho, _, hlt, hx⟩
  · exact .inl (by rw [h]; rfl)
  · refine .inr ⟨g, 0, rfl, hS g ho, hlt, fun i x hi => ?_⟩
    rw [List.getElem?_map] at hi
    cases hy : L[i]? with
    | none => rw [hy] at hi; cases hi
    | some y =>
      rw [hy] at hi
      obtain rfl : y.1 = x := by simpa using hi
      exact ⟨y.2, hx i y hy 0 _ rfl, hx i y hy 1 _ rfl, hx i y hy 2 _ rfl, hx i y hy 3 _ rfl, hx i y hy 4 _ rfl, he y (List.mem_of_getElem? hy)⟩
theorem items_row {w : World} {base : Nat} {v : Value} {L : List (ItT × Value × Value)} {S : Nat → Prop} (h : w.ownsRow base 42 5 v L.length (L.flatMap fun x => itCs x.1 x.2.1 x.2.2)) (hS : ∀ k, v.ownBlock = some k → S k) (he : ∀ x ∈ L, TgsAt w S x.2.1 x.1.cs ∧ PasAt w S x.2.2 x.1.ps) : ItsAt w S v (L.map (·.1)) := by
  obtain ⟨a, c, rfl, hc, hn, hr⟩ := row_cells (cells := fun x : ItT × Value × Value => itCs x.1 x.2.1 x.2.2) (fun _ => rfl) h
  refine ⟨a, c, by rw [List.length_map], by rw [List.length_map]; exact hc, hn, ?_⟩
  rcases hr with h | ⟨g, rfl, ho, _, hlt, hx⟩
  · exact .inl (by rw [h]; rfl)
  · refine .inr ⟨g, 0, rfl, hS g ho, hlt, fun i x hi => ?_⟩
    rw [List.getElem?_map] at hi
    cases hy : L[i]? with
    | none => rw [hy] at hi; cases hi
    | some y =>
      rw [hy] at hi
      obtain rfl : y.1 = x := by simpa using hi
      exact ⟨y.2.1, y.2.2, hx i y hy 0 _ rfl, hx i y hy 1 _ rfl, hx i y hy 2 _ rfl, hx i y hy 3 _ rfl, hx i y hy 4 _ rfl, (he y (List.mem_of_getElem? hy)).1, (he y (List.mem_of_getElem? hy)).2⟩
end Go.Proofs.Ytlidkieljiebiaa
