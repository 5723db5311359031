/-
  Marks; one law on append for rows that are held beside others.
-/
import Derived.Test.YtblhenblibdjoabDoorAdd
import Derived.ArgAppend
namespace Go.Proofs.YtblhenblibdjoabDoor
open Go.RowKit

/-- The first m marks of row q. -/
def marks (q m : Nat) : List ByteArray := (List.range m).map (markB q)
theorem marks_len (q m : Nat) : (marks q m).length = m := by simp [marks]
theorem marks_get {q m p : Nat} (h : p < m) : (marks q m)[p]? = some (markB q p) := by simp [marks, h]
theorem marks_succ (q m : Nat) : marks q m ++ [markB q m] = marks q (m + 1) := by simp [marks, List.range_succ]

theorem owns_mono {w : World} {B B' e s n : Nat} {v : Value} {xs : List Value} (h : w.ownsRow B e s v n xs) (hB : B' ≤ B) : w.ownsRow B' e s v n xs :=
  ⟨h.1, h.2.imp id (fun ⟨g, cap, cur, h1, h2, r⟩ => ⟨g, cap, cur, h1, Nat.le_trans hB h2, r⟩)⟩
theorem owns_prefix {w : World} {B e g n m cap : Nat} {xs news : List Value} (hx : xs.length = n) (h : w.ownsRow B e 1 (.slice (some ⟨g, 0, none⟩) (n + m) cap) (n + m) (xs ++ news)) : w.ownsRow B e 1 (.slice (some ⟨g, 0, none⟩) n cap) n xs := by
  refine ⟨by omega, .inr ?_⟩
  rcases h.2 with ⟨h0, _⟩ | ⟨g', cap', cur, hv, hB, hg, h1, h2, h3, h4⟩
  · cases h0
  · simp only [Value.slice.injEq, Option.some.injEq, Addr.mk.injEq, and_true, true_and] at hv
    obtain ⟨rfl, rfl⟩ := hv
    refine ⟨g, cap, cur, rfl, hB, hg, by omega, h2, h3, ?_⟩
    have e1 : (cur.toList.take ((n + m) * 1)).take n = cur.toList.take n := by rw [List.take_take, Nat.min_eq_left (by omega)]
    have e2 : (xs ++ news).take n = xs := by rw [← hx, List.take_left]
    rw [Nat.mul_one, ← e1, h4, e2]

theorem wpList_append_rows {P : Program} (w : World) {ops : Array Oper} {rest : List Oper} {o : Oper} {a : Act} {Q : Exit → Act → World → Prop} (hgd : o.guard = none) (s x : Operand) (t : TypeId)
    (ho : o.op = .call { callee := .builtin .append, args := #[s, x], argTypes := #[t, t] })
    (base : Nat) (e : TypeId) (i : TypeInfo) (z : Value) (bytes : Nat) (ht : P.underlying t = some (.slice e)) (hi : P.info? e = some i) (hz : i.zero = some z)
    (hsize : i.size = 1) (hby : i.bytes = bytes) (hzs : z.cells.size = 1)
    (v : Value) (n : Nat) (xs : List Value) (hs : a.eval s = v) (hown : w.ownsRow base e 1 v n xs)
    (ad : Addr) (m c : Nat) (news : List Value) (hx : a.eval x = .slice (some ad) m c) (hl : news.length = m * 1) (hnews : ∀ j u, news[j]? = some u → w.cell? (ad.add j) = some u) (h1 : ∀ u ∈ news, u.oneCell' = true)
    (hm : 0 < m) (h63 : n + m ≤ maxLen) (hbytes : (n + m) * bytes ≤ 140737488355328) (hbase : base ≤ w.heap.size)
    (h : ∀ g cap w', w'.ownsRow base e 1 (.slice (some ⟨g, 0, none⟩) (n + m) cap) (n + m) (xs ++ news) → ((v = .slice (some ⟨g, 0, none⟩) n cap ∧ w.grownBy w' (some g)) ∨ (w.heap.size ≤ g ∧ w.grownBy w' none)) →
      wpList P ops Q rest (a.put o.dst (.slice (some ⟨g, 0, none⟩) (n + m) cap)) w') :
    wpList P ops Q (o :: rest) a w := by
  have hgrow : ∀ v' w', w'.ownsRow w.heap.size e 1 v' (n + m) (xs ++ news) → w.grownBy w' none → wpList P ops Q rest (a.put o.dst v') w' := by
    intro v' w' h2 h3
    obtain ⟨g, cap, rfl⟩ := form_of h2 (by omega)
    exact h g cap w' (owns_mono h2 hbase) (.inr ⟨(h2.lt g rfl).1, h3⟩)
  rcases hown.2 with ⟨rfl, rfl⟩ | ⟨g, cap, cur, rfl, hbg, hg, hnc, hcm, hcs, htake⟩
  · have hx0 : xs = [] := List.eq_nil_of_length_eq_zero (by simpa using hown.1)
    subst hx0
    exact wpList_append_grows w hgd s x t ho e i z 1 bytes ht hi hz hsize hby hzs (by decide) none 0 0 [] hs (fun _ => ⟨rfl, rfl⟩) rfl (fun b hb => by cases hb) ad m c news hx hl hnews h1 (by omega) h63 hbytes hgrow
  · by_cases hroom : n + m ≤ cap
    · refine wpList_append_fits w hgd s x t ho base e i 1 ht hi hsize g n cap xs hs hown ad m c news hx hl hnews h1 hroom ?_
      intro w' h2 h3
      exact h g cap w' h2 (.inl ⟨rfl, h3⟩)
    · exact wpList_append_grows w hgd s x t ho e i z 1 bytes ht hi hz hsize hby hzs (by decide) (some ⟨g, 0, none⟩) n cap xs hs (fun h => by cases h) hown.1 (fun b hb => by cases hb; exact hown.cells (g := g) rfl) ad m c news hx hl hnews h1 (by omega) h63 hbytes hgrow

theorem nodup_ne {rs : List Rw} (hn : (blks rs).Nodup) {i j : Nat} {r r' : Rw} (hi : rs[i]? = some r) (hj : rs[j]? = some r') (hij : i ≠ j) : Apart r.1 r'.1 := by
  intro k hk hk'
  have hp : rs.Pairwise (fun a b => ∀ x, a.1.ownBlock = some x → ∀ y, b.1.ownBlock = some y → x ≠ y) := by
    unfold blks List.Nodup at hn
    rw [List.pairwise_filterMap] at hn
    exact hn
  rw [List.pairwise_iff_getElem] at hp
  obtain ⟨hi1, hi2⟩ := List.getElem?_eq_some_iff.1 hi
  obtain ⟨hj1, hj2⟩ := List.getElem?_eq_some_iff.1 hj
  rcases Nat.lt_or_gt_of_ne hij with h | h
  · exact hp i j hi1 hj1 h k (by rw [hi2]; exact hk) k (by rw [hj2]; exact hk') rfl
  · exact hp j i hj1 hi1 h k (by rw [hj2]; exact hk') k (by rw [hi2]; exact hk) rfl

theorem Rok.row {w : World} {B n : Nat} {v : Value} {zs : List ByteArray} (h : Rok w B (v, zs)) (hn : zs.length = n) : w.ownsRow B 9 1 v n (zs.map Value.string) := by
  subst hn
  exact h
theorem Rok.of {w : World} {B n : Nat} {v : Value} {zs : List ByteArray} (h : w.ownsRow B 9 1 v n (zs.map Value.string)) (hn : zs.length = n) : Rok w B (v, zs) := by
  subst hn
  exact h

theorem row_form {w : World} {B : Nat} {r : Rw} (h : Rok w B r) : ∃ a c, r.1 = .slice a r.2.length c ∧ Lst w a r.2 := by
  obtain ⟨a, c, hv, hL, _⟩ := lst_of_owns h
  exact ⟨a, c, hv, hL⟩

/-- Row q of the first list, of what is held. -/
theorem outer_cell {w : World} {B g n cap q : Nat} {ls : List Rw} {r : Rw} (h : w.ownsRow B 37 1 (.slice (some ⟨g, 0, none⟩) n cap) n (ls.map Prod.fst)) (hr : ls[q]? = some r) : w.cell? ⟨g, q, none⟩ = some r.1 := by
  have hl : ls.length = n := by simpa using h.1
  have hk : q < ls.length := (List.getElem?_eq_some_iff.1 hr).1
  rw [h.cellAt q (by omega), List.getElem?_map, hr]
  rfl
end Go.Proofs.YtblhenblibdjoabDoor
