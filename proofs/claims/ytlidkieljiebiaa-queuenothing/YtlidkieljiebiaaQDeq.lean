/-
  A list that is taken from in front and put to behind.
-/
import Derived.Test.YtlidkieljiebiaaQSoundP
import Derived.ArgAppend
namespace Go.Proofs.Ytlidkieljiebiaa
open Go.RowKit
set_option linter.unusedVariables false

/-- A list of cells, from some place of its block on. -/
def Deq (w : World) (e : TypeId) (v : Value) (vals : List Value) : Prop :=
  (v = .slice none 0 0 ∧ vals = []) ∨
  ∃ g off cap cur, v = .slice (some ⟨g, off, none⟩) vals.length cap ∧ w.heap[g]? = some (.cells cur e (0, 0)) ∧ vals.length ≤ cap ∧ off + cap ≤ cur.size ∧ cur.size ≤ maxLen ∧ (cur.toList.drop off).take vals.length = vals

theorem Deq.of_owns {w : World} {base : Nat} {e : TypeId} {v : Value} {n : Nat} {vals : List Value} (h : w.ownsRow base e 1 v n vals) : Deq w e v vals := by
  have hl := h.1
  rw [Nat.mul_one] at hl
  rcases h.2 with ⟨rfl, h0⟩ | ⟨g, cap, cur, rfl, _, hg, hn, hc, hs, ht⟩
  · exact .inl ⟨rfl, List.eq_nil_of_length_eq_zero (by omega)⟩
  · refine .inr ⟨g, 0, cap, cur, by rw [hl], hg, by omega, by omega, by omega, ?_⟩
    rw [List.drop_zero, hl]
    simpa using ht

theorem Deq.lt {w : World} {e : TypeId} {v : Value} {vals : List Value} (h : Deq w e v vals) : ∀ k, v.ownBlock = some k → k < w.heap.size ∧ ∃ cur, w.heap[k]? = some (.cells cur e (0, 0)) := by
  intro k hk
  rcases h with ⟨rfl, _⟩ | ⟨g, off, cap, cur, rfl, hg, _⟩
  · cases hk
  · cases hk
    exact ⟨lt_of_blk hg, cur, hg⟩

theorem Deq.chg {S : Nat → Prop} {w w' : World} {e : TypeId} {v : Value} {vals : List Value} (h : Deq w e v vals) (hf : Chg w w' S) (hS : ∀ k, v.ownBlock = some k → ¬ S k) : Deq w' e v vals := by
  rcases h with h | ⟨g, off, cap, cur, rfl, hg, r⟩
  · exact .inl h
  · exact .inr ⟨g, off, cap, cur, rfl, (hf.block g (lt_of_blk hg) (hS g rfl)).trans hg, r⟩
theorem Deq.below {w w' : World} {e : TypeId} {v : Value} {vals : List Value} (h : Deq w e v vals) (hf : Below w.heap.size w w') : Deq w' e v vals := h.chg (Chg.of_below hf (fun _ => False)) (fun _ _ h => h)
theorem Deq.form {w : World} {e : TypeId} {v : Value} {vals : List Value} (h : Deq w e v vals) : ∃ a c, v = .slice a vals.length c ∧ vals.length ≤ c := by
  rcases h with ⟨rfl, rfl⟩ | ⟨g, off, cap, cur, rfl, hg, h1, r⟩
  · exact ⟨none, 0, rfl, Nat.le_refl _⟩
  · exact ⟨_, cap, rfl, h1⟩
theorem Deq.nil (w : World) (e : TypeId) : Deq w e (.slice none 0 0) [] := .inl ⟨rfl, rfl⟩
theorem cell_blkD {w : World} {g : Nat} {cur : Array Value} {e : TypeId} {fz : Nat × Nat} (h : w.heap[g]? = some (.cells cur e fz)) (o : Nat) : w.cell? ⟨g, o, none⟩ = cur[o]? := by
  unfold World.cell?
  rw [h]
  rfl
theorem frozen_blk {w : World} {g : Nat} {cur : Array Value} {e : TypeId} (h : w.heap[g]? = some (.cells cur e (0, 0))) (o : Nat) : w.frozen? ⟨g, o, none⟩ = false := by
  unfold World.frozen?
  rw [h]
  simp
theorem set_blk {w : World} {g : Nat} {cur : Array Value} {e : TypeId} {fz : Nat × Nat} (h : w.heap[g]? = some (.cells cur e fz)) (o : Nat) (v : Value) : (w.setCell ⟨g, o, none⟩ v).heap[g]? = some (.cells (cur.setIfInBounds o v) e fz) := by
  obtain ⟨hlt, hk⟩ := Array.getElem?_eq_some_iff.1 h
  show (w.heap.modify g _)[g]? = _
  rw [Array.getElem?_eq_getElem (by rw [Array.size_modify]; exact hlt), Array.getElem_modify_self, hk]
  rfl

/-- One more behind. -/
theorem run_app_deq {P : Program} {w : World} {t ty e : TypeId} {i : TypeInfo} {z : Value} {bytes : Nat} (ht : P.underlying t = some (.slice e)) (hi : P.info? e = some i) (hz : i.zero = some z) (hsize : i.size = 1) (hby : i.bytes = bytes) (hzs : z.cells.size = 1)
    {v : Value} {vals : List Value} (hd : Deq w e v vals) {ad : Addr} {c : Nat} {x : Value} (hx : w.cell? ad = some x) (h1 : x.oneCell' = true) (hb1 : vals.length + 1 ≤ 1000000) (hbb : bytes ≤ 100) (hsp : ad.spot = none) :
    ∃ v' w', (Builtin.append_ #[t, t] ty #[v, .slice (some ad) 1 c]).run P w = .ok v' w' ∧ Deq w' e v' (vals ++ [x]) ∧ w.grownBy w' v.ownBlock ∧ (∀ k, v'.ownBlock = some k → v.ownBlock = some k ∨ w.heap.size ≤ k) := by
  obtain ⟨ab, ao, asp⟩ := ad
  dsimp only at hsp
  subst hsp
  have hnews : ∀ j u, [x][j]? = some u → w.cell? ((⟨ab, ao, none⟩ : Addr).add j) = some u := by
    intro j u hj
    match j, hj with
    | 0, hj => cases hj; rw [addr_add]; exact hx
    | j + 1, hj => simp at hj
  have hml : (1000000 : Nat) ≤ maxLen := by unfold maxLen; decide
  have hby2 : (vals.length + 1) * bytes ≤ 140737488355328 := Nat.le_trans (Nat.mul_le_mul hb1 hbb) (by decide)
  rcases hd with ⟨rfl, rfl⟩ | ⟨g, off, cap, cur, rfl, hg, hn, hs, hm, htk⟩
  · obtain ⟨v', w', hrun, r1, r2, _⟩ := run_append_own (P := P) w w.heap.size t ty e i z 1 bytes ht hi hz hsize hby hzs (by decide) (.slice none 0 0) 0 [] (World.ownsRow_nil w _ e 1) ⟨ab, ao, none⟩ 1 c [x] rfl hnews (by intro u hu; simp at hu; subst hu; exact h1) (by omega) (by omega) (Nat.le_refl _)
    refine ⟨v', w', hrun, Deq.of_owns r1, r2, fun k hk => .inr (r1.lt k hk).1⟩
  · by_cases hroom : vals.length + 1 ≤ cap
    · have hrun := run_append_room_cells (P := P) w t ty e i ht hi g off vals.length cap ⟨ab, ao, none⟩ 1 c [x] (by rw [hsize]; rfl) hnews (by intro u hu; simp at hu; subst hu; exact h1) hroom
        (fun j hj => by
          have : j = 0 := by simp at hj; exact hj
          subst this
          rw [hsize, Nat.mul_one, Nat.add_zero, cell_blkD hg, Array.getElem?_eq_getElem (by omega)]; rfl)
        (fun j hj => frozen_blk hg _)
      rw [hsize, Nat.mul_one] at hrun
      refine ⟨_, _, hrun, ?_, ?_, fun k hk => .inl hk⟩
      · show Deq (w.setCell ⟨g, off + vals.length, none⟩ x) e _ _
        refine .inr ⟨g, off, cap, _, by rw [List.length_append]; rfl, set_blk hg _ _, by rw [List.length_append]; exact hroom, by rw [Array.size_setIfInBounds]; exact hs, by rw [Array.size_setIfInBounds]; exact hm, ?_⟩
        have hlen : cap ≤ (List.drop off cur.toList).length := by rw [List.length_drop]; simp; omega
        rw [List.length_append, Array.toList_setIfInBounds, List.drop_set, if_neg (by omega), show off + vals.length - off = vals.length by omega]
        generalize hL : List.drop off cur.toList = L at htk hlen
        show (L.set vals.length x).take (vals.length + 1) = _
        rw [List.take_add_one, List.getElem?_set_self (by omega), List.take_set_of_le (Nat.le_refl _), htk]
        rfl
      · show w.grownBy (w.setCell ⟨g, off + vals.length, none⟩ x) (some g)
        exact ⟨rfl, rfl, rfl, by show w.heap.size ≤ (w.heap.modify _ _).size; rw [Array.size_modify]; exact Nat.le_refl _, fun k _ hn => Below.heap_setCell w _ x k (fun e => hn (by rw [e]))⟩
    · obtain ⟨v', w', hrun, r1, r2⟩ := run_append_arg_grows (P := P) w t ty e i z 1 bytes ht hi hz hsize hby hzs (by decide) ⟨g, off, none⟩ vals.length cap vals (by rw [Nat.mul_one]) (fun j u hj => by
          have hjl : j < vals.length := (List.getElem?_eq_some_iff.1 hj).1
          rw [addr_add, cell_blkD hg]
          rw [← htk, List.getElem?_take, if_pos hjl, List.getElem?_drop] at hj
          rw [← Array.getElem?_toList]
          exact hj) ⟨ab, ao, none⟩ 1 c [x] rfl hnews (by omega) (by omega) hby2
      exact ⟨v', w', hrun, Deq.of_owns r1, ⟨r2.os, r2.tape, r2.output, r2.size, fun k hk _ => r2.block k hk (by simp)⟩, fun k hk => .inr (r1.lt k hk).1⟩

theorem Deq.get {w : World} {e : TypeId} {a : Option Addr} {n c j : Nat} {vals : List Value} {x : Value} (h : Deq w e (.slice a n c) vals) (hj : vals[j]? = some x) : ∃ g o, a = some ⟨g, o, none⟩ ∧ g < w.heap.size ∧ w.cell? ⟨g, o + j, none⟩ = some x := by
  rcases h with ⟨_, rfl⟩ | ⟨g, off, cap, cur, hv, hg, h1, h2, h3, h4⟩
  · cases hj
  · cases hv
    refine ⟨g, off, rfl, lt_of_blk hg, ?_⟩
    have hjl : j < vals.length := (List.getElem?_eq_some_iff.1 hj).1
    rw [cell_blkD hg]
    rw [← h4, List.getElem?_take, if_pos hjl, List.getElem?_drop] at hj
    rw [← Array.getElem?_toList]
    exact hj
theorem Deq.drop {w : World} {e : TypeId} {g o n c k : Nat} {vals : List Value} (h : Deq w e (.slice (some ⟨g, o, none⟩) n c) vals) (hk : k ≤ vals.length) : Deq w e (.slice (some ⟨g, o + k, none⟩) (n - k) (c - k)) (vals.drop k) := by
  rcases h with ⟨hv, _⟩ | ⟨g', off, cap, cur, hv, hg, h1, h2, h3, h4⟩
  · cases hv
  · cases hv
    refine .inr ⟨g, o + k, c - k, cur, by rw [List.length_drop], hg, by rw [List.length_drop]; omega, by omega, h3, ?_⟩
    rw [← List.drop_drop, List.length_drop]
    have e1 : c ≤ (List.drop o cur.toList).length := by rw [List.length_drop]; simp; omega
    generalize List.drop o cur.toList = L at h4 e1
    rw [← h4, List.drop_take, List.length_take, Nat.min_eq_left (by omega)]
/-- Nothing of it. -/
theorem Deq.none_of {w : World} {e : TypeId} {g o n c : Nat} {vals : List Value} (h : Deq w e (.slice (some ⟨g, o, none⟩) n c) vals) : Deq w e (.slice (some ⟨g, o, none⟩) 0 0) [] := by
  rcases h with ⟨hv, _⟩ | ⟨g', off, cap, cur, hv, hg, h1, h2, h3, h4⟩
  · cases hv
  · cases hv
    exact .inr ⟨g, o, 0, cur, rfl, hg, Nat.le_refl _, by omega, h3, by simp⟩
/-- One cell, made anew. -/
theorem Deq.one {w : World} {e : TypeId} (x : Value) : Deq (w.alloc (.cells #[x] e)) e (.slice (some ⟨w.heap.size, 0, none⟩) 1 1) [x] :=
  .inr ⟨w.heap.size, 0, 1, #[x], rfl, heap_alloc_new _ _, Nat.le_refl _, Nat.le_refl _, by show 1 ≤ maxLen; unfold maxLen; decide, rfl⟩
/-- .. as one operation of a list. -/
theorem wpList_app_deq {P : Program} {w : World} {ops : Array Oper} {rest : List Oper} {o : Oper} {a : Act} {Q : Exit → Act → World → Prop} (hgd : o.guard = none) (s x : Operand) (t : TypeId) (ho : o.op = .call { callee := .builtin .append, args := #[s, x], argTypes := #[t, t] })
    {e : TypeId} {i : TypeInfo} {z : Value} {bytes : Nat} (ht : P.underlying t = some (.slice e)) (hi : P.info? e = some i) (hz : i.zero = some z) (hsize : i.size = 1) (hby : i.bytes = bytes) (hzs : z.cells.size = 1)
    {v : Value} {vals : List Value} (hs : a.eval s = v) (hd : Deq w e v vals) {ad : Addr} {c : Nat} {y : Value} (hx : a.eval x = .slice (some ad) 1 c) (hy : w.cell? ad = some y) (h1 : y.oneCell' = true) (hb1 : vals.length + 1 ≤ 1000000) (hbb : bytes ≤ 100) (hsp : ad.spot = none)
    (hK : ∀ v' w', Deq w' e v' (vals ++ [y]) → w.grownBy w' v.ownBlock → (∀ k, v'.ownBlock = some k → v.ownBlock = some k ∨ w.heap.size ≤ k) → wpList P ops Q rest (a.put o.dst v') w') : wpList P ops Q (o :: rest) a w := by
  refine wpList_plain hgd fun K hK' => ?_
  obtain ⟨v', w', hrun, r1, r2, r3⟩ := run_app_deq (P := P) (ty := o.type) ht hi hz hsize hby hzs hd hy h1 hb1 hbb hsp (c := c)
  unfold Oper.wp
  simp [execOp, ho, resolve, invoke, builtin, hs, hx, hrun, Result.andThen]
  exact hK' _ _ (hK v' w' r1 r2 r3)
theorem wpList_app_int {w : World} {ops : Array Oper} {rest : List Oper} {o : Oper} {act : Act} {Q : Exit → Act → World → Prop} (hgd : o.guard = none) (s x : Operand)
    (ho : o.op = .call { callee := .builtin .append, args := #[s, x], argTypes := #[29, 29] }) (v : Value) (vals : List Value) (hs : act.eval s = v) (hd : Deq w 3 v vals) (g c : Nat) (y : Int) (hx : act.eval x = .slice (some ⟨g, 0, none⟩) 1 c) (hy : w.cell? ⟨g, 0, none⟩ = some (.int .i64 y)) (hb1 : vals.length + 1 ≤ 1000000)
    (h : ∀ v' w', Deq w' 3 v' (vals ++ [.int .i64 y]) → w.grownBy w' v.ownBlock → (∀ k, v'.ownBlock = some k → v.ownBlock = some k ∨ w.heap.size ≤ k) → wpList Try.prog ops Q rest (act.put o.dst v') w') : wpList Try.prog ops Q (o :: rest) act w := by
  have hI := Try.infoInt
  cases hi : Try.prog.info? 3 with
  | none => rw [hi] at hI; cases hI
  | some i0 =>
    rw [hi] at hI
    simp only [Option.map_some, Option.some.injEq, Prod.mk.injEq] at hI
    exact wpList_app_deq hgd s x 29 ho Try.underlying29 hi hI.1 hI.2.1 hI.2.2 rfl hs hd hx hy rfl hb1 (by decide) rfl h
end Go.Proofs.Ytlidkieljiebiaa
