/-
  Lists of lists: one is gone on from.
-/
import Derived.Test.YtnmengoefpdaiaaIFull
namespace Go.Proofs.Ytnmengoefpdaiaa.I
open Go.RowKit
set_option linter.unusedVariables false
set_option linter.unusedSimpArgs false

theorem owns_mono {w : World} {B B' e s n : Nat} {v : Value} {xs : List Value} (h : w.ownsRow B e s v n xs) (hB : B' ≤ B) : w.ownsRow B' e s v n xs :=
  ⟨h.1, h.2.imp id (fun ⟨g, cap, cur, h1, h2, r⟩ => ⟨g, cap, cur, h1, Nat.le_trans hB h2, r⟩)⟩
theorem owns_prefix {w : World} {B e s g n m cap : Nat} {xs news : List Value} (hx : xs.length = n * s) (h : w.ownsRow B e s (.slice (some ⟨g, 0, none⟩) (n + m) cap) (n + m) (xs ++ news)) : w.ownsRow B e s (.slice (some ⟨g, 0, none⟩) n cap) n xs := by
  refine ⟨hx, .inr ?_⟩
  rcases h.2 with ⟨h0, _⟩ | ⟨g', cap', cur, hv, hB, hg, h1, h2, h3, h4⟩
  · cases h0
  · simp only [Value.slice.injEq, Option.some.injEq, Addr.mk.injEq, and_true, true_and] at hv
    obtain ⟨rfl, rfl⟩ := hv
    refine ⟨g, cap, cur, rfl, hB, hg, by omega, h2, h3, ?_⟩
    have hle : n * s ≤ (n + m) * s := Nat.mul_le_mul_right _ (by omega)
    have e1 : (cur.toList.take ((n + m) * s)).take (n * s) = cur.toList.take (n * s) := by rw [List.take_take, Nat.min_eq_left hle]
    have e2 : (xs ++ news).take (n * s) = xs := by rw [← hx, List.take_left]
    rw [← e1, h4, e2]
theorem wpList_append_any {P : Program} (w : World) {ops : Array Oper} {rest : List Oper} {o : Oper} {a : Act} {Q : Exit → Act → World → Prop} (hgd : o.guard = none) (s x : Operand) (t : TypeId)
    (ho : o.op = .call { callee := .builtin .append, args := #[s, x], argTypes := #[t, t] })
    (base : Nat) (e : TypeId) (i : TypeInfo) (z : Value) (size bytes : Nat) (ht : P.underlying t = some (.slice e)) (hi : P.info? e = some i) (hz : i.zero = some z)
    (hsize : i.size = size) (hby : i.bytes = bytes) (hzs : z.cells.size = size) (hsz : 0 < size)
    (v : Value) (n : Nat) (xs : List Value) (hs : a.eval s = v) (hown : w.ownsRow base e size v n xs)
    (ad : Addr) (m c : Nat) (news : List Value) (hx : a.eval x = .slice (some ad) m c) (hl : news.length = m * size) (hnews : ∀ j u, news[j]? = some u → w.cell? (ad.add j) = some u) (h1 : ∀ u ∈ news, u.oneCell' = true)
    (hm : 0 < m) (h63 : n + m ≤ maxLen) (hbytes : (n + m) * bytes ≤ 140737488355328) (hbase : base ≤ w.heap.size)
    (h : ∀ g cap w', w'.ownsRow base e size (.slice (some ⟨g, 0, none⟩) (n + m) cap) (n + m) (xs ++ news) → ((v = .slice (some ⟨g, 0, none⟩) n cap ∧ w.grownBy w' (some g)) ∨ (w.heap.size ≤ g ∧ w.grownBy w' none)) →
      wpList P ops Q rest (a.put o.dst (.slice (some ⟨g, 0, none⟩) (n + m) cap)) w') :
    wpList P ops Q (o :: rest) a w := by
  have hgrow : ∀ v' w', w'.ownsRow w.heap.size e size v' (n + m) (xs ++ news) → w.grownBy w' none → wpList P ops Q rest (a.put o.dst v') w' := by
    intro v' w' h2 h3
    obtain ⟨g, cap, rfl, _⟩ := h2.form (by omega)
    exact h g cap w' (owns_mono h2 hbase) (.inr ⟨(h2.lt g rfl).1, h3⟩)
  rcases hown.2 with ⟨rfl, rfl⟩ | ⟨g, cap, cur, rfl, hbg, hg, hnc, hcm, hcs, htake⟩
  · have hx0 : xs = [] := List.eq_nil_of_length_eq_zero (by simpa using hown.1)
    subst hx0
    exact wpList_append_grows w hgd s x t ho e i z size bytes ht hi hz hsize hby hzs hsz none 0 0 [] hs (fun _ => ⟨rfl, rfl⟩) (by simp) (fun b hb => by cases hb) ad m c news hx hl hnews h1 (by omega) h63 hbytes hgrow
  · by_cases hroom : n + m ≤ cap
    · refine wpList_append_fits w hgd s x t ho base e i size ht hi hsize g n cap xs hs hown ad m c news hx hl hnews h1 hroom ?_
      intro w' h2 h3
      exact h g cap w' h2 (.inl ⟨rfl, h3⟩)
    · exact wpList_append_grows w hgd s x t ho e i z size bytes ht hi hz hsize hby hzs hsz (some ⟨g, 0, none⟩) n cap xs hs (fun h => by cases h) hown.1 (fun b hb => by cases hb; exact hown.cells (g := g) rfl) ad m c news hx hl hnews h1 (by omega) h63 hbytes hgrow
/-- A list that is gone on from p times, beside what it was. -/
structure Gro (T sz : Nat) (Wq wr : World) (u : Value) (l k : List (El sz)) (g : Value) : Prop where
  chg : Chg Wq wr (fun b => u.ownBlock = some b)
  row : wr.ownsRow 0 T sz g (l.length + k.length) (fl l ++ fl k)
  old : wr.ownsRow 0 T sz u l.length (fl l)
  alt : (∃ a c, u = .slice a l.length c ∧ g = .slice a (l.length + k.length) c) ∨ ∃ b, g.ownBlock = some b ∧ Wq.heap.size ≤ b
theorem Gro.start {T sz : Nat} {w : World} {u : Value} {l : List (El sz)} (h : w.ownsRow 0 T sz u l.length (fl l)) : Gro T sz w w u l [] u := by
  refine ⟨Chg.refl _ _, by simpa using h, h, .inl ?_⟩
  rcases h.2 with ⟨rfl, h0⟩ | ⟨g, cap, cur, rfl, _⟩
  · exact ⟨none, 0, by rw [h0], by simp [h0]⟩
  · exact ⟨_, _, rfl, by simp⟩
theorem Gro.next {T sz : Nat} {Wq wr w1 w2 : World} {u g : Value} {l k : List (El sz)} {g' cap' : Nat} {e : El sz} (h : Gro T sz Wq wr u l k g) (hu : ∀ b, u.ownBlock = some b → b < Wq.heap.size) (hb : Below wr.heap.size wr w1)
    (hown : w2.ownsRow 0 T sz (.slice (some ⟨g', 0, none⟩) (l.length + k.length + 1) cap') (l.length + k.length + 1) ((fl l ++ fl k) ++ e.1))
    (halt : (g = .slice (some ⟨g', 0, none⟩) (l.length + k.length) cap' ∧ w1.grownBy w2 (some g')) ∨ (w1.heap.size ≤ g' ∧ w1.grownBy w2 none)) :
    Gro T sz Wq w2 u l (k ++ [e]) (.slice (some ⟨g', 0, none⟩) (l.length + k.length + 1) cap') := by
  have s1 := h.chg.size
  have s2 := hb.size
  have hfl : fl (k ++ [e]) = fl k ++ e.1 := by simp [fl]
  have hle : l.length + (k ++ [e]).length = l.length + k.length + 1 := by simp; omega
  have hrow : w2.ownsRow 0 T sz (.slice (some ⟨g', 0, none⟩) (l.length + k.length + 1) cap') (l.length + (k ++ [e]).length) (fl l ++ fl (k ++ [e])) := by
    rw [hfl, hle, ← List.append_assoc]
    exact hown
  rcases halt with ⟨hg, hgr⟩ | ⟨hge, hgr⟩
  · rcases h.alt with ⟨a, c, hua, hga⟩ | ⟨b, hgb, hN⟩
    · rw [hga] at hg
      simp only [Value.slice.injEq] at hg
      obtain ⟨rfl, _, rfl⟩ := hg
      have hub : u.ownBlock = some g' := by rw [hua]; rfl
      refine ⟨h.chg.trans ((Chg.of_below hb _).trans ((Chg.grown hgr).mono (fun b _ e' => by cases e'; exact hub))), hrow, ?_, .inl ⟨_, _, hua, by rw [hle]⟩⟩
      rw [hua]
      have hlt : l.length + k.length + 1 = l.length + (k.length + 1) := by omega
      rw [hlt, List.append_assoc] at hown
      exact owns_prefix (fl_len l) hown
    · have hgb' : g' = b := by rw [hg] at hgb; simpa [Value.ownBlock] using hgb
      subst hgb'
      have hne : ∀ b, u.ownBlock = some b → b ≠ g' := fun b hb' e' => by have := hu b hb'; omega
      refine ⟨⟨?_, ?_, ?_, Nat.le_trans s1 (Nat.le_trans s2 hgr.size), fun b hb' hn => ?_⟩, hrow, owns_same h.old (fun b hb' => ?_), .inr ⟨g', rfl, hN⟩⟩
      · exact hgr.os.trans (hb.os.trans h.chg.os)
      · exact hgr.tape.trans (hb.tape.trans h.chg.tape)
      · exact hgr.output.trans (hb.output.trans h.chg.output)
      · rw [hgr.block b (by omega) (fun e' => by cases e'; omega), hb.block b (by omega)]
        exact h.chg.block b hb' hn
      · have := (row_block h.old b hb').2
        rw [hgr.block b (by omega) (fun e' => by cases e'; exact hne _ hb' rfl), hb.block b this]
  · refine ⟨h.chg.trans ((Chg.of_below hb _).trans ((Chg.grown hgr).mono (fun b _ e' => by cases e'))), hrow, owns_same h.old (fun b hb' => ?_), .inr ⟨g', rfl, by omega⟩⟩
    have := (row_block h.old b hb').2
    rw [hgr.block b (by omega) (fun e' => by cases e'), hb.block b this]
end Go.Proofs.Ytnmengoefpdaiaa.I
