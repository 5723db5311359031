/-
  shot: changes in memory.
-/
import Derived.Test.YtbamkdohaofgdaaGreatDoorDPure
import Derived.Test.YtbamkdohaofgdaaGreatDoorSTurned
namespace Go.Proofs.YtbamkdohaofgdaaGreatDoor
open Go.RowKit
set_option linter.unusedVariables false
set_option linter.unusedSimpArgs false

theorem Tryz.infoC : (Tryz.prog.info? 46).map (fun i => (i.zero, i.size, i.bytes)) = some (some (.agg #[.int .i64 0, .string ⟨#[]⟩, .string ⟨#[]⟩, .int .i64 0]), 4, 48) := by kernel_rfl
theorem hs_of_owns {w : World} {base n cap : Nat} {g : Nat} {l : List ChT} {rest : List Value} (h : w.ownsRow base 46 4 (.slice (some ⟨g, 0, none⟩) n cap) n (chCs l ++ rest)) : Hs w (some ⟨g, 0, none⟩) l := by
  refine .inr ⟨g, 0, rfl, (h.lt g rfl).2, fun i s hi j x hx => ?_⟩
  rw [Nat.zero_add]
  exact cell_n h (chCs_at l i j s x hi hx rest)
theorem hs_of_row {w : World} {base n c : Nat} {a : Option Addr} {l : List ChT} (h : w.ownsRow base 46 4 (.slice a n c) n (chCs l)) : Hs w a l := by
  cases a with
  | none =>
    rcases h.2 with ⟨_, rfl⟩ | ⟨g, cap, cur, hv, _⟩
    · have := h.1
      rw [chCs_len] at this
      exact .inl (List.eq_nil_of_length_eq_zero (by omega))
    · cases hv
  | some ad =>
    rcases h.2 with ⟨hv, _⟩ | ⟨g, cap, cur, hv, _⟩
    · cases hv
    · cases hv
      exact hs_of_owns (rest := []) (by rw [List.append_nil]; exact h)
theorem hs_news {w : World} {ad : Addr} {l : List ChT} (h : Hs w (some ad) l) : ∀ j u, (chCs l)[j]? = some u → w.cell? (ad.add j) = some u := by
  intro j u hj
  rcases h with rfl | ⟨b, o, ha, _, hs⟩
  · simp [chCs] at hj
  · have hab : ad = ⟨b, o, none⟩ := Option.some.inj ha
    subst hab
    have hjl : j < l.length * 4 := by rw [← chCs_len]; exact (List.getElem?_eq_some_iff.1 hj).1
    have hq : j / 4 < l.length := by omega
    obtain ⟨s, hs'⟩ : ∃ s, l[j / 4]? = some s := ⟨l[j / 4], List.getElem?_eq_getElem hq⟩
    obtain ⟨x, hx⟩ : ∃ x, s.cells[j % 4]? = some x := ⟨s.cells[j % 4]'(by simp; omega), List.getElem?_eq_getElem _⟩
    have h1 := chCs_at l (j / 4) (j % 4) s x hs' hx []
    rw [List.append_nil, show j / 4 * 4 + j % 4 = j by omega, hj] at h1
    have h2 := hs (j / 4) s hs' (j % 4) x hx
    rw [addr_add, h1, ← h2]
    congr 2
    omega
theorem hs_chg {w w' : World} {S : Nat → Prop} {a : Option Addr} {l : List ChT} (h : Hs w a l) (hc : Chg w w' S) (hs : ∀ b o, a = some ⟨b, o, none⟩ → ¬ S b) : Hs w' a l := by
  rcases h with h | ⟨b, o, ha, hlt, hx⟩
  · exact .inl h
  · refine .inr ⟨b, o, ha, Nat.lt_of_lt_of_le hlt hc.size, fun i s hi j x hj => ?_⟩
    rw [World.cell?_of_block (w := w) (hc.block b hlt (hs b o ha))]
    exact hx i s hi j x hj
theorem wpList_appC {w : World} {ops : Array Oper} {rest : List Oper} {o : Oper} {act : Act} {Q : Exit → Act → World → Prop} (hgd : o.guard = none) (s x : Operand)
    (ho : o.op = .call { callee := .builtin .append, args := #[s, x], argTypes := #[27, 27] }) (base : Nat) (v : Value) (n : Nat) (xs : List Value) (hs : act.eval s = v) (hown : w.ownsRow base 46 4 v n xs)
    (ad : Option Addr) (m c : Nat) (ys : List ChT) (hx : act.eval x = .slice ad m c) (hm : m = ys.length) (hby : Hs w ad ys) (hn : ad = none → c = 0) (hlen : n + ys.length ≤ 1000000) (hB : base ≤ w.heap.size)
    (h : ∀ v' w', w'.ownsRow base 46 4 v' (n + ys.length) (xs ++ chCs ys) → w.grownBy w' v.ownBlock → (v'.ownBlock = v.ownBlock ∨ v'.ownBlock = some w.heap.size) → wpList Tryz.prog ops Q rest (act.put o.dst v') w') : wpList Tryz.prog ops Q (o :: rest) act w := by
  obtain ⟨i0, hi, hz0, hz1, hz2⟩ := info_parts Tryz.infoC
  subst hm
  cases ad with
  | none =>
    have hc0 := hn rfl
    subst hc0
    have hys : ys = [] := by
      rcases hby with h | ⟨b, o, h, _⟩
      · exact h
      · cases h
    subst hys
    refine wpList_append_own_none hgd s x 27 ho base 46 i0 4 Tryz.underlying27 hi _ _ _ hs hown hx ?_
    have := h v w (by simpa [chCs] using hown) ⟨rfl, rfl, rfl, Nat.le_refl _, fun _ _ _ => rfl⟩ (.inl rfl)
    exact this
  | some ad =>
    refine wpList_append_own_at _ hgd s x 27 ho base 46 i0 _ 4 48 Tryz.underlying27 hi hz0 hz1 hz2 rfl (by decide) v n xs hs hown ad ys.length c (chCs ys) hx (chCs_len _) (hs_news hby) (chCs_one _) (by unfold maxLen; omega) (by omega) hB ?_
    intro v' w' ho' hg' _ hat'
    exact h v' w' ho' hg' hat'
end Go.Proofs.YtbamkdohaofgdaaGreatDoor
