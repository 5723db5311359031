/-
  WireKeeps: steps of its walk.
-/
import Derived.Test.YtdjibjmhjofedacWKeeps2
import Derived.Deep.RegionHeld3
namespace Go.Proofs.Ytdjibjmhjofedac
open Go.RowKit
set_option linter.unusedVariables false

theorem info_kept : (Try.prog.info? 45).map (fun i => (i.zero, i.size, i.bytes)) = some (some (.agg #[.slice none 0 0, .slice none 0 0, .slice none 0 0]), 3, 72) := by kernel_rfl

theorem step_app_book {ops : Array Oper} {o : Oper} {a : Act} {w : World} {K : Act → World → Prop} {Q : Exit → Act → World → Prop} {E : Prop} (hgd : o.guard = none) (s x : Operand) (ho : o.op = .call { callee := .builtin .append, args := #[s, x], argTypes := #[40, 40] })
    {base n : Nat} {v : Value} {vals : List Value} (hs : a.eval s = v) (hd : w.ownsRow base 45 3 v n vals) {ad : Addr} {m c : Nat} {news : List Value} (hx : a.eval x = .slice (some ad) m c) (hn : news.length = m * 3) (hc : ∀ j u, news[j]? = some u → w.cell? (ad.add j) = some u) (h1 : ∀ u ∈ news, u.oneCell' = true) (hb1 : n + m ≤ 100000) (hB : base ≤ w.heap.size)
    (hK : ∀ v' w', w'.ownsRow base 45 3 v' (n + m) (vals ++ news) → w.grownBy w' v.ownBlock → K (a.put o.dst v') w') :
    if Region.wanted o (yielded ops a.tmps) = true then Oper.wp Try.prog o a w K Q else E := by
  have hw : Region.wanted o (yielded ops a.tmps) = true := by simp [Region.wanted, hgd]
  rw [if_pos hw]
  obtain ⟨i, hi, hz, hsz, hby⟩ := info_parts info_kept
  obtain ⟨v', w', hrun, r1, r2, _⟩ := run_append_own (P := Try.prog) w base 40 o.type 45 i _ 3 72 Try.underlying40 hi hz hsz hby rfl (by decide) v n vals hd ad m c news hn hc h1 (by unfold maxLen; omega) (by omega) hB
  unfold Oper.wp
  simp [execOp, ho, resolve, invoke, builtin, hs, hx, hrun, Result.andThen]
  exact hK v' w' r1 r2

/-- The list of three that was taken. -/
theorem three_cells {W : World} {base : Nat} {lv : Value} {p q r : Value} (h : W.ownsRow base 26 1 lv 3 [p, q, r]) : ∃ g c, lv = .slice (some ⟨g, 0, none⟩) 3 c ∧ 3 ≤ c ∧ g < W.heap.size ∧ W.cell? ⟨g, 0, none⟩ = some p ∧ W.cell? ⟨g, 1, none⟩ = some q ∧ W.cell? ⟨g, 2, none⟩ = some r ∧ (∃ cur, W.heap[g]? = some (.cells cur 26 (0, 0))) := by
  rcases h.2 with ⟨_, h0⟩ | ⟨g, cap, cur, rfl, _, hg, h1, h2, h3, ht⟩
  · omega
  · refine ⟨g, cap, rfl, h1, lt_of_blk hg, ?_, ?_, ?_, cur, hg⟩
    · have : (cur.toList.take (3 * 1))[0]? = some p := by rw [ht]; rfl
      rw [List.getElem?_take, if_pos (by omega)] at this
      rw [cell_blk hg, ← Array.getElem?_toList]; exact this
    · have : (cur.toList.take (3 * 1))[1]? = some q := by rw [ht]; rfl
      rw [List.getElem?_take, if_pos (by omega)] at this
      rw [cell_blk hg, ← Array.getElem?_toList]; exact this
    · have : (cur.toList.take (3 * 1))[2]? = some r := by rw [ht]; rfl
      rw [List.getElem?_take, if_pos (by omega)] at this
      rw [cell_blk hg, ← Array.getElem?_toList]; exact this

theorem three_of {gs : List (Value × List Int)} {x y z : List Int} (h : gs.map (·.2) = [x, y, z]) : ∃ u1 u2 u3, gs = [(u1, x), (u2, y), (u3, z)] := by
  match gs, h with
  | [(u1, a), (u2, b), (u3, c)], h =>
    simp only [List.map_cons, List.map_nil, List.cons.injEq, and_true] at h
    obtain ⟨rfl, rfl, rfl⟩ := h
    exact ⟨u1, u2, u3, rfl⟩

/-- A list of the round, as a list of bytes. -/
theorem row_is {W : World} {base : Nat} {v : Value} {zs : List Int} (h : W.ownsRow base 5 1 v zs.length (bv zs)) : ∃ a c, v = .slice a zs.length c ∧ Bys W a zs ∧ (a = none → c = 0) ∧ zs.length ≤ c ∧ c ≤ maxLen := by
  obtain ⟨a, c, h1, h2, h3, _, h5, h6⟩ := bys_of_owns h
  exact ⟨a, c, h1, h2, h3, h5, h6⟩

theorem Rd.bys {w W0 W : World} {cont : Nat → List Int} {es : List En} {bkv : Value} {sb : Nat} {rv fv : Value} {fs fl wl : List (Value × List Int)} (h : Rd w W0 cont es bkv sb rv fv fs fl wl W) {a : Option Addr} {c : Nat} {zs : List Int} (hm : (Value.slice a zs.length c, zs) ∈ fl) : Bys W a zs ∧ (a = none → c = 0) := by
  obtain ⟨a', c', hv, hb, hn, _⟩ := row_is (h.lf _ hm)
  simp only [Value.slice.injEq, true_and] at hv
  rw [hv.1, hv.2]
  exact ⟨hb, hn⟩

theorem cells_lit (w : World) (L : List Value) (t : TypeId) : ∀ (j : Nat) (u : Value), L[j]? = some u → (w.alloc (.cells L.toArray t)).cell? ((⟨w.heap.size, 0, none⟩ : Addr).add j) = some u := fun j u hu => by
  rw [addr_add, Nat.zero_add, cell_blk (World.alloc_heap_new w _) j, List.getElem?_toArray]
  exact hu

/-- One piece, framed. -/
theorem frame_one (a : Option Addr) (c : Nat) (ys : List Int) (w : World) (hx : Bys w a ys) (hb : Byt ys) (hn : a = none → c = 0) (hm : ys.length ≤ 262144) :
    Calls Try.prog 9 #[.slice (some ⟨w.heap.size, 0, none⟩) 1 1] (w.alloc (.cells #[.slice a ys.length c] 26)) fun e w' => ∃ a' c', e = .returned (.tuple #[.slice a' (frameL ys).length c', .int .i64 0]) ∧ w'.ownsRow w.heap.size 5 1 (.slice a' (frameL ys).length c') (frameL ys).length (bv (frameL ys)) ∧ Below w.heap.size w w' := by
  have al : Below w.heap.size w (w.alloc (.cells #[.slice a ys.length c] 26)) := (Below.refl _ _).alloc (Nat.le_refl _) _
  have h := frame_any (some ⟨w.heap.size, 0, none⟩) 1 _ _ (one_pcs hx hb hn) (by rw [one_body]; exact hm) (by simp)
  rw [one_body] at h
  refine h.mono ?_
  rintro e w' ⟨a', c', rfl, h1, h2⟩
  exact ⟨a', c', rfl, owns_low h1 (by simp), trans2 al h2⟩
end Go.Proofs.Ytdjibjmhjofedac
