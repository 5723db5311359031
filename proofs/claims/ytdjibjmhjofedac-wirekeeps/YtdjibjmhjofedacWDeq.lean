/-
  A list that is taken from in front and put to behind; what a step leaves as it was.
-/
import Derived.Test.YtdjibjmhjofedacWShort
import Derived.ArgAppend
import Derived.RangeFuncNested
namespace Go.Proofs.Ytdjibjmhjofedac
open Go.RowKit
set_option linter.unusedVariables false

/-- What lay lies as it lay, but for the blocks S. -/
structure Fr (S : Nat → Prop) (w w' : World) : Prop where
  os : w'.os = w.os
  tape : w'.tape = w.tape
  output : w'.output = w.output
  size : w.heap.size ≤ w'.heap.size
  block : ∀ k, k < w.heap.size → ¬ S k → w'.heap[k]? = w.heap[k]?

theorem Fr.refl (S : Nat → Prop) (w : World) : Fr S w w := ⟨rfl, rfl, rfl, Nat.le_refl _, fun _ _ _ => rfl⟩
theorem Fr.trans {S T : Nat → Prop} {a b c : World} (h : Fr S a b) (k : Fr T b c) (hT : ∀ j, T j → S j ∨ a.heap.size ≤ j) : Fr S a c :=
  ⟨k.os.trans h.os, k.tape.trans h.tape, k.output.trans h.output, Nat.le_trans h.size k.size, fun j hj hS =>
    (k.block j (Nat.lt_of_lt_of_le hj h.size) (fun t => by rcases hT j t with s | s; exact hS s; omega)).trans (h.block j hj hS)⟩
theorem Fr.mono {S T : Nat → Prop} {a b : World} (h : Fr S a b) (hT : ∀ j, S j → T j ∨ a.heap.size ≤ j) : Fr T a b :=
  (Fr.refl T a).trans h hT
theorem Fr.of_below {w w' : World} (h : Below w.heap.size w w') (S : Nat → Prop) : Fr S w w' := ⟨h.os, h.tape, h.output, h.size, fun k hk _ => h.block k hk⟩
theorem Fr.of_grown {w w' : World} {row : Option Nat} (h : w.grownBy w' row) : Fr (fun k => row = some k) w w' :=
  ⟨h.os, h.tape, h.output, h.size, fun k hk hn => h.block k hk (fun e => hn e.symm)⟩
theorem Fr.of_setCell (w : World) (a : Addr) (v : Value) : Fr (fun k => k = a.block) w (w.setCell a v) :=
  ⟨rfl, rfl, rfl, by show w.heap.size ≤ (w.heap.modify _ _).size; rw [Array.size_modify]; exact Nat.le_refl _, fun k _ hn => Below.heap_setCell w a v k hn⟩
theorem Fr.below {S : Nat → Prop} {a b : World} (h : Fr S a b) (B : Nat) (hB : B ≤ a.heap.size) (hS : ∀ k, S k → B ≤ k) : Below B a b :=
  ⟨h.os, h.tape, h.output, h.size, fun k hk => h.block k (Nat.lt_of_lt_of_le hk hB) (fun s => by have := hS k s; omega)⟩
theorem Fr.keeps {S : Nat → Prop} {a b : World} (h : Fr S a b) (hS : ∀ k o, S k → a.heap[k]? = some o → o.isCells = true) : KeepsOthers a b :=
  ⟨h.size, fun k o hk ho => (h.block k (Array.getElem?_eq_some_iff.1 hk).1 (fun s => by rw [hS k o s hk] at ho; cases ho)).trans hk⟩

/-- A list of cells, from some place of its block on. -/
def Deq (w : World) (e : TypeId) (v : Value) (vals : List Value) : Prop :=
  (v = .slice none 0 0 ∧ vals = []) ∨
  ∃ g off cap cur, v = .slice (some ⟨g, off, none⟩) vals.length cap ∧ w.heap[g]? = some (.cells cur e (0, 0)) ∧ vals.length ≤ cap ∧ off + cap = cur.size ∧ cur.size ≤ maxLen ∧ (cur.toList.drop off).take vals.length = vals

theorem Deq.of_owns {w : World} {base : Nat} {e : TypeId} {v : Value} {n : Nat} {vals : List Value} (h : w.ownsRow base e 1 v n vals) : Deq w e v vals := by
  have hl := h.1
  rw [Nat.mul_one] at hl
  rcases h.2 with ⟨rfl, h0⟩ | ⟨g, cap, cur, rfl, _, hg, hn, hc, hs, ht⟩
  · exact .inl ⟨rfl, List.eq_nil_of_length_eq_zero (by omega)⟩
  · refine .inr ⟨g, 0, cap, cur, by rw [hl], hg, by omega, by omega, by omega, ?_⟩
    rw [List.drop_zero, hl]
    simpa using ht

theorem Deq.lt {w : World} {e : TypeId} {v : Value} {vals : List Value} (h : Deq w e v vals) : ∀ k, v.ownBlock = some k → k < w.heap.size ∧ ∃ cur, w.heap[k]? = some (.cells cur e (0, 0)) := by
  intro k hk
  rcases h with ⟨rfl, _⟩ | ⟨g, off, cap, cur, rfl, hg, _⟩
  · cases hk
  · cases hk
    exact ⟨lt_of_blk hg, cur, hg⟩

theorem Deq.fr {S : Nat → Prop} {w w' : World} {e : TypeId} {v : Value} {vals : List Value} (h : Deq w e v vals) (hf : Fr S w w') (hS : ∀ k, v.ownBlock = some k → ¬ S k) : Deq w' e v vals := by
  rcases h with h | ⟨g, off, cap, cur, rfl, hg, r⟩
  · exact .inl h
  · exact .inr ⟨g, off, cap, cur, rfl, (hf.block g (lt_of_blk hg) (hS g rfl)).trans hg, r⟩

theorem owns_fr {S : Nat → Prop} {w w' : World} {base n : Nat} {e : TypeId} {v : Value} {vals : List Value} (h : w.ownsRow base e 1 v n vals) (hf : Fr S w w') (hS : ∀ k, v.ownBlock = some k → ¬ S k) : w'.ownsRow base e 1 v n vals := by
  refine ⟨h.1, ?_⟩
  rcases h.2 with h | ⟨g, cap, cur, rfl, hb, hg, r⟩
  · exact .inl h
  · exact .inr ⟨g, cap, cur, rfl, hb, (hf.block g (lt_of_blk hg) (hS g rfl)).trans hg, r⟩

theorem owns_kind {w : World} {base n : Nat} {e : TypeId} {v : Value} {vals : List Value} (h : w.ownsRow base e 1 v n vals) : ∀ k, v.ownBlock = some k → k < w.heap.size ∧ base ≤ k ∧ ∃ cur, w.heap[k]? = some (.cells cur e (0, 0)) := by
  intro k hk
  rcases h.2 with ⟨rfl, _⟩ | ⟨g, cap, cur, rfl, hb, hg, r⟩
  · cases hk
  · cases hk
    exact ⟨lt_of_blk hg, hb, cur, hg⟩

theorem cell_blk {w : World} {g : Nat} {cur : Array Value} {e : TypeId} {fz : Nat × Nat} (h : w.heap[g]? = some (.cells cur e fz)) (o : Nat) : w.cell? ⟨g, o, none⟩ = cur[o]? := by
  unfold World.cell?
  rw [h]
  rfl
theorem frozen_blk {w : World} {g : Nat} {cur : Array Value} {e : TypeId} (h : w.heap[g]? = some (.cells cur e (0, 0))) (o : Nat) : w.frozen? ⟨g, o, none⟩ = false := by
  unfold World.frozen?
  rw [h]
  simp
theorem set_blk {w : World} {g : Nat} {cur : Array Value} {e : TypeId} {fz : Nat × Nat} (h : w.heap[g]? = some (.cells cur e fz)) (o : Nat) (v : Value) : (w.setCell ⟨g, o, none⟩ v).heap[g]? = some (.cells (cur.setIfInBounds o v) e fz) := by
  obtain ⟨hlt, hk⟩ := Array.getElem?_eq_some_iff.1 h
  show (w.heap.modify g _)[g]? = _
  rw [Array.getElem?_eq_getElem (by rw [Array.size_modify]; exact hlt), Array.getElem_modify_self, hk]
  rfl

/-- One more behind. -/
theorem run_app_deq {P : Program} {w : World} {t ty e : TypeId} {i : TypeInfo} {z : Value} {bytes : Nat} (ht : P.underlying t = some (.slice e)) (hi : P.info? e = some i) (hz : i.zero = some z) (hsize : i.size = 1) (hby : i.bytes = bytes) (hzs : z.cells.size = 1)
    {v : Value} {vals : List Value} (hd : Deq w e v vals) {ad : Addr} {c : Nat} {x : Value} (hx : w.cell? ad = some x) (h1 : x.oneCell' = true) (hb1 : vals.length + 1 ≤ 1000000) (hbb : bytes ≤ 100) (hsp : ad.spot = none) :
    ∃ v' w', (Builtin.append_ #[t, t] ty #[v, .slice (some ad) 1 c]).run P w = .ok v' w' ∧ Deq w' e v' (vals ++ [x]) ∧ w.grownBy w' v.ownBlock ∧ (∀ k, v'.ownBlock = some k → v.ownBlock = some k ∨ w.heap.size ≤ k) := by
  obtain ⟨ab, ao, asp⟩ := ad
  dsimp only at hsp
  subst hsp
  have hnews : ∀ j u, [x][j]? = some u → w.cell? ((⟨ab, ao, none⟩ : Addr).add j) = some u := by
    intro j u hj
    match j, hj with
    | 0, hj => cases hj; rw [addr_add]; exact hx
    | j + 1, hj => simp at hj
  have hml : (1000000 : Nat) ≤ maxLen := by unfold maxLen; decide
  have hby2 : (vals.length + 1) * bytes ≤ 140737488355328 := Nat.le_trans (Nat.mul_le_mul hb1 hbb) (by decide)
  rcases hd with ⟨rfl, rfl⟩ | ⟨g, off, cap, cur, rfl, hg, hn, hs, hm, htk⟩
  · obtain ⟨v', w', hrun, r1, r2, _⟩ := run_append_own (P := P) w w.heap.size t ty e i z 1 bytes ht hi hz hsize hby hzs (by decide) (.slice none 0 0) 0 [] (World.ownsRow_nil w _ e 1) ⟨ab, ao, none⟩ 1 c [x] rfl hnews (by intro u hu; simp at hu; subst hu; exact h1) (by omega) (by omega) (Nat.le_refl _)
    refine ⟨v', w', hrun, Deq.of_owns r1, r2, fun k hk => .inr (r1.lt k hk).1⟩
  · by_cases hroom : vals.length + 1 ≤ cap
    · have hrun := run_append_room_cells (P := P) w t ty e i ht hi g off vals.length cap ⟨ab, ao, none⟩ 1 c [x] (by rw [hsize]; rfl) hnews (by intro u hu; simp at hu; subst hu; exact h1) hroom
        (fun j hj => by
          have : j = 0 := by simp at hj; exact hj
          subst this
          rw [hsize, Nat.mul_one, Nat.add_zero, cell_blk hg, Array.getElem?_eq_getElem (by omega)]; rfl)
        (fun j hj => frozen_blk hg _)
      rw [hsize, Nat.mul_one] at hrun
      refine ⟨_, _, hrun, ?_, ?_, fun k hk => .inl hk⟩
      · show Deq (w.setCell ⟨g, off + vals.length, none⟩ x) e _ _
        refine .inr ⟨g, off, cap, _, by rw [List.length_append]; rfl, set_blk hg _ _, by rw [List.length_append]; exact hroom, by rw [Array.size_setIfInBounds]; exact hs, by rw [Array.size_setIfInBounds]; exact hm, ?_⟩
        have hlen : (List.drop off cur.toList).length = cap := by rw [List.length_drop]; simp; omega
        rw [List.length_append, Array.toList_setIfInBounds, List.drop_set, if_neg (by omega), show off + vals.length - off = vals.length by omega]
        generalize hL : List.drop off cur.toList = L at htk hlen
        show (L.set vals.length x).take (vals.length + 1) = _
        rw [List.take_add_one, List.getElem?_set_self (by omega), List.take_set_of_le (Nat.le_refl _), htk]
        rfl
      · show w.grownBy (w.setCell ⟨g, off + vals.length, none⟩ x) (some g)
        exact ⟨rfl, rfl, rfl, by show w.heap.size ≤ (w.heap.modify _ _).size; rw [Array.size_modify]; exact Nat.le_refl _, fun k _ hn => Below.heap_setCell w _ x k (fun e => hn (by rw [e]))⟩
    · obtain ⟨v', w', hrun, r1, r2⟩ := run_append_arg_grows (P := P) w t ty e i z 1 bytes ht hi hz hsize hby hzs (by decide) ⟨g, off, none⟩ vals.length cap vals (by rw [Nat.mul_one]) (fun j u hj => by
          have hjl : j < vals.length := (List.getElem?_eq_some_iff.1 hj).1
          rw [addr_add, cell_blk hg]
          rw [← htk, List.getElem?_take, if_pos hjl, List.getElem?_drop] at hj
          rw [← Array.getElem?_toList]
          exact hj) ⟨ab, ao, none⟩ 1 c [x] rfl hnews (by omega) (by omega) hby2
      exact ⟨v', w', hrun, Deq.of_owns r1, ⟨r2.os, r2.tape, r2.output, r2.size, fun k hk _ => r2.block k hk (by simp)⟩, fun k hk => .inr (r1.lt k hk).1⟩

/-- .. as one step of a region. -/
theorem step_app_deq {P : Program} {ops : Array Oper} {o : Oper} {a : Act} {w : World} {K : Act → World → Prop} {Q : Exit → Act → World → Prop} {E : Prop} (hgd : o.guard = none) (s x : Operand) (t : TypeId) (ho : o.op = .call { callee := .builtin .append, args := #[s, x], argTypes := #[t, t] })
    {e : TypeId} {i : TypeInfo} {z : Value} {bytes : Nat} (ht : P.underlying t = some (.slice e)) (hi : P.info? e = some i) (hz : i.zero = some z) (hsize : i.size = 1) (hby : i.bytes = bytes) (hzs : z.cells.size = 1)
    {v : Value} {vals : List Value} (hs : a.eval s = v) (hd : Deq w e v vals) {ad : Addr} {c : Nat} {y : Value} (hx : a.eval x = .slice (some ad) 1 c) (hy : w.cell? ad = some y) (h1 : y.oneCell' = true) (hb1 : vals.length + 1 ≤ 1000000) (hbb : bytes ≤ 100) (hsp : ad.spot = none)
    (hK : ∀ v' w', Deq w' e v' (vals ++ [y]) → w.grownBy w' v.ownBlock → (∀ k, v'.ownBlock = some k → v.ownBlock = some k ∨ w.heap.size ≤ k) → K (a.put o.dst v') w') :
    if Region.wanted o (yielded ops a.tmps) = true then Oper.wp P o a w K Q else E := by
  have hw : Region.wanted o (yielded ops a.tmps) = true := by simp [Region.wanted, hgd]
  rw [if_pos hw]
  obtain ⟨v', w', hrun, r1, r2, r3⟩ := run_app_deq (P := P) (ty := o.type) ht hi hz hsize hby hzs hd hy h1 hb1 hbb hsp (c := c)
  unfold Oper.wp
  simp [execOp, ho, resolve, invoke, builtin, hs, hx, hrun, Result.andThen]
  exact hK v' w' r1 r2 r3
end Go.Proofs.Ytdjibjmhjofedac
