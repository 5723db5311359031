/-
  append of a list of bytes, wherever it lies.
-/
import Derived.Test.YtdjibjmhjofedacWRoomy
namespace Go.Proofs.Ytdjibjmhjofedac
open Go.RowKit

theorem wpList_app {w : World} {ops : Array Oper} {rest : List Oper} {o : Oper} {act : Act} {Q : Exit → Act → World → Prop} (hgd : o.guard = none) (s x : Operand)
    (ho : o.op = .call { callee := .builtin .append, args := #[s, x], argTypes := #[26, 26] }) (base : Nat) (v : Value) (xs : List Int) (hs : act.eval s = v) (hown : w.ownsRow base 5 1 v xs.length (bv xs))
    (ad : Option Addr) (m c : Nat) (ys : List Int) (hx : act.eval x = .slice ad m c) (hm : m = ys.length) (hby : Bys w ad ys) (hn : ad = none → c = 0) (hlen : xs.length + ys.length ≤ 10000000) (hB : base ≤ w.heap.size)
    (h : ∀ v' w', w'.ownsRow base 5 1 v' (xs ++ ys).length (bv (xs ++ ys)) → w.grownBy w' v.ownBlock → wpList Try.prog ops Q rest (act.put o.dst v') w') : wpList Try.prog ops Q (o :: rest) act w := by
  obtain ⟨i0, hi, hz0, hz1, hz2⟩ := info_parts Try.info5
  subst hm
  cases ad with
  | none =>
    have hc0 := hn rfl
    subst hc0
    have hys : ys = [] := by
      rcases hby with h | ⟨b, o, h, _⟩
      · exact h
      · cases h
    subst hys
    refine wpList_append_own_none hgd s x 26 ho base 5 i0 1 Try.underlying26 hi _ _ _ hs hown hx ?_
    have := h v w (by rw [List.append_nil]; exact hown) ⟨rfl, rfl, rfl, Nat.le_refl _, fun _ _ _ => rfl⟩
    exact this
  | some ad =>
    refine wpList_append_own _ hgd s x 26 ho base 5 i0 (.int .u8 0) 1 1 Try.underlying26 hi hz0 hz1 hz2 rfl (by decide) v xs.length (bv xs) hs hown ad ys.length c (bv ys) hx (by rw [bv_len, Nat.mul_one]) (cells_at hby) (bv_one _) (by unfold maxLen; omega) (by omega) hB ?_
    intro v' w' ho' hg' _
    exact h v' w' (by rw [List.length_append, bv_append]; exact ho') hg'
end Go.Proofs.Ytdjibjmhjofedac
