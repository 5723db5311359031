import Derived.Test.YtponpkfdkdnaeaaDoorFRefDec
import Derived.Test.YtponpkfdkdnaeaaDoorESame
namespace Go.Proofs.YtponpkfdkdnaeaaDoor
open Go.RowKit Classical
set_option linter.unusedVariables false
set_option linter.unusedSimpArgs false

theorem num_any (e0 : Int) (w : World) : Calls Tryd.prog 6 #[.int .i64 e0] w fun e w' => e = .returned (.int .i64 e0) ∧ w' = w := by
  go_enter Tryd.func6, Tryd.ntmps6
  go_wp2_with fail
  go_ret
  exact ⟨rfl, rfl⟩
theorem ownsLowF {w : World} {B B' e s n : Nat} {v : Value} {xs : List Value} (h : w.ownsRow B e s v n xs) (hb : B' ≤ B) : w.ownsRow B' e s v n xs := by
  refine ⟨h.1, ?_⟩
  rcases h.2 with h0 | ⟨g, cap, cur, hv, hB, r⟩
  · exact .inl h0
  · exact .inr ⟨g, cap, cur, hv, Nat.le_trans hb hB, r⟩
/-- make of bytes. -/
theorem make_b (n : Nat) (hn : n ≤ 1000000) : ∃ M : Array Value, (∀ j, j < n → M[j]? = some (.int .u8 0)) ∧ ∀ w : World, (Instr.makeSlice 22 (.int .i64 n) (.int .i64 n)).run Tryd.prog w = .ok (.slice (some ⟨w.heap.size, 0, none⟩) n n) (w.alloc (.cells M 5)) := by
  obtain ⟨i0, hi, hz0, hz1, hz2⟩ := info_parts Tryd.info5
  refine ⟨madeCells (Value.cells (.int .u8 0)) (n * 1), fun j hj => ?_, fun w => ?_⟩
  · have hs : j < (madeCells (Value.cells (.int .u8 0)) (n * 1)).size := by rw [size_madeCells]; omega
    rw [Array.getElem?_eq_getElem hs]
    simp [madeCells, Value.cells, Nat.mod_one]
  · have h := run_make (P := Tryd.prog) w 22 5 i0 _ Tryd.underlying22 hi hz0 .i64 .i64 n n (by omega) (Int.le_refl _) (by rw [hz2]; omega) (by omega)
    rw [hz1] at h
    exact h
theorem bys_made {w : World} {g n : Nat} {M : Array Value} (h : w.heap[g]? = some (.cells M 5 (0, 0))) (hM : ∀ j, j < n → M[j]? = some (.int .u8 0)) : Bys w (some ⟨g, 0, none⟩) (List.replicate n 0) := by
  refine .inr ⟨g, 0, rfl, lt_of_blk h, fun j z hj => ?_⟩
  rw [List.getElem?_replicate] at hj
  split at hj
  · rename_i hj'
    cases hj
    unfold World.cell?
    simp only [h, Nat.zero_add]
    exact hM j hj'
  · cases hj
theorem byt_made (n : Nat) : Byt (List.replicate n 0) := fun z hz => by rw [List.eq_of_mem_replicate hz]; omega
/-- Two shots that say the same. -/
theorem alike_same (st : Int) (p : ByteArray) (k : Int) (la lb : Option Addr) (L lc ld : Nat) (l : List SeenT) (w : World) (hL : l.length = L) (hs : Ss w la l) (ht : Ss w lb l) (hm : L ≤ maxLen) :
    Calls Tryd.prog 7 #[.agg (shA st p k la L lc), .agg (shA st p k lb L ld)] w fun e w' => e = .returned (.bool true) ∧ Below w.heap.size w w' := by
  subst hL
  exact (alike_any ⟨st, p, k, la, lc, l⟩ ⟨st, p, k, lb, ld, l⟩ w hs ht hm rfl).mono (fun e w' h => ⟨by rw [h.1]; simp, h.2⟩)
theorem decRes_len {xs : List Int} {c st k : Int} {p : ByteArray} {l : List SeenT} (h : DecRes xs c st p k l) : l.length ≤ maxLen := by
  by_cases hl : 262144 < xs.length
  · rw [(h.long hl).2.2.2.2]; exact Nat.zero_le _
  · by_cases hb : ∀ R, rdShot xs = some R → R.at' = xs.length → ¬ Good R.st R.p R.k R.l
    · rw [(h.bad (by omega) hb).2.2.2.2]; exact Nat.zero_le _
    · obtain ⟨R, hR, ha, hg⟩ : ∃ R, rdShot xs = some R ∧ R.at' = xs.length ∧ Good R.st R.p R.k R.l := Classical.byContradiction fun hn => hb (fun R hR ha hg => hn ⟨R, hR, ha, hg⟩)
      rw [(h.good R (by omega) hR ha hg).2.2.2.2]
      have := (rdShot_size hR).1
      unfold maxLen
      omega
theorem good_ab (b : UInt8) (hb : isP ⟨#[47, b]⟩ = true) (hne : (⟨#[47, b]⟩ : ByteArray) ≠ pRoot) : Good 0 ⟨#[47, b]⟩ 1 [] := ⟨by decide, (cov_self 1 _).2 ⟨hb, by decide, by decide⟩, by simp, fun h => absurd h.1 hne, fun i n h => by simp at h⟩
theorem says_a : rdShot [0, 2, 47, 97, 1, 0] = some ⟨0, ⟨#[47, 97]⟩, 1, [], 6⟩ := by kernel_rfl
theorem says_b : rdShot [0, 2, 47, 98, 1, 0] = some ⟨0, ⟨#[47, 98]⟩, 1, [], 6⟩ := by kernel_rfl
theorem dec_a {code st k : Int} {p : ByteArray} {l : List SeenT} (h : DecRes [0, 2, 47, 97, 1, 0] code st p k l) : code = 0 ∧ p = ⟨#[47, 97]⟩ := by
  have := h.good _ (by simp) says_a rfl (good_ab 97 (by decide +kernel) (by decide))
  exact ⟨this.1, this.2.2.1⟩
theorem dec_b {code st k : Int} {p : ByteArray} {l : List SeenT} (h : DecRes [0, 2, 47, 98, 1, 0] code st p k l) : code = 0 ∧ p = ⟨#[47, 98]⟩ := by
  have := h.good _ (by simp) says_b rfl (good_ab 98 (by decide +kernel) (by decide))
  exact ⟨this.1, this.2.2.1⟩
/-- How a byte is turned. -/
def tb (z : Int) : Int := if 97 ≤ z ∧ z < 122 then z + 1 else z
def upB (xs : List Int) (q : Nat) : List Int := (xs.take q).map tb ++ xs.drop q
theorem byt_tb {xs : List Int} (h : Byt xs) : Byt (xs.map tb) := fun z hz => by
  obtain ⟨y, hy, rfl⟩ := List.mem_map.1 hz
  have := h y hy
  unfold tb
  split <;> omega
theorem wpList_appD {w : World} {ops : Array Oper} {rest : List Oper} {o : Oper} {act : Act} {Q : Exit → Act → World → Prop} (hgd : o.guard = none) (s x : Operand)
    (ho : o.op = .call { callee := .builtin .append, args := #[s, x], argTypes := #[22, 22] }) (base : Nat) (v : Value) (xs : List Int) (hs : act.eval s = v) (hown : w.ownsRow base 5 1 v xs.length (bv xs))
    (ad : Option Addr) (m c : Nat) (ys : List Int) (hx : act.eval x = .slice ad m c) (hm : m = ys.length) (hby : Bys w ad ys) (hn : ad = none → c = 0) (hlen : xs.length + ys.length ≤ 10000000) (hB : base ≤ w.heap.size)
    (h : ∀ v' w', w'.ownsRow base 5 1 v' (xs ++ ys).length (bv (xs ++ ys)) → w.grownBy w' v.ownBlock → (v'.ownBlock = v.ownBlock ∨ v'.ownBlock = some w.heap.size) → wpList Tryd.prog ops Q rest (act.put o.dst v') w') : wpList Tryd.prog ops Q (o :: rest) act w := by
  obtain ⟨i0, hi, hz0, hz1, hz2⟩ := info_parts Tryd.info5
  subst hm
  cases ad with
  | none =>
    have hc0 := hn rfl
    subst hc0
    have hys : ys = [] := by
      rcases hby with h | ⟨b, o, h, _⟩
      · exact h
      · cases h
    subst hys
    refine wpList_append_own_none hgd s x 22 ho base 5 i0 1 Tryd.underlying22 hi _ _ _ hs hown hx ?_
    have := h v w (by rw [List.append_nil]; exact hown) ⟨rfl, rfl, rfl, Nat.le_refl _, fun _ _ _ => rfl⟩ (.inl rfl)
    exact this
  | some ad =>
    refine wpList_append_own_at _ hgd s x 22 ho base 5 i0 (.int .u8 0) 1 1 Tryd.underlying22 hi hz0 hz1 hz2 rfl (by decide) v xs.length (bv xs) hs hown ad ys.length c (bv ys) hx (by rw [bv_len, Nat.mul_one]) (cells_at hby) (bv_one _) (by unfold maxLen; omega) (by omega) hB ?_
    intro v' w' ho' hg' _ hat'
    exact h v' w' (by rw [List.length_append, bv_append]; exact ho') hg' hat'
theorem bys_one {w : World} {g : Nat} {z : Int} (h : w.heap[g]? = some (.cells #[.int .u8 z] 5 (0, 0))) : Bys w (some ⟨g, 0, none⟩) [z] := by
  refine .inr ⟨g, 0, rfl, lt_of_blk h, fun j y hj => ?_⟩
  cases j with
  | zero =>
    simp only [List.getElem?_cons_zero, Option.some.injEq] at hj
    subst hj
    simp [World.cell?, h]
  | succ j => simp at hj
/-- A shot in a box. -/
structure BX (w : World) (b : Nat) (st : Int) (p : ByteArray) (k : Int) (la : Option Addr) (L lc : Nat) (l : List SeenT) : Prop where
  box : w.heap[b]? = some (.cells (shA st p k la L lc) 25 (0, 0))
  ss : Ss w la l
theorem BX.below {w w' : World} {b : Nat} {st : Int} {p : ByteArray} {k : Int} {la : Option Addr} {L lc : Nat} {l : List SeenT} (h : BX w b st p k la L lc l) (hb : Below w.heap.size w w') : BX w' b st p k la L lc l := ⟨kept_block hb h.box, h.ss.below hb⟩
end Go.Proofs.YtponpkfdkdnaeaaDoor
namespace Go.Proofs.YtponpkfdkdnaeaaDoor
open Go.RowKit Classical
set_option linter.unusedVariables false
set_option linter.unusedSimpArgs false

theorem row_pre {w : World} {B g cc : Nat} {xs : List Int} (h : w.ownsRow B 5 1 (.slice (some ⟨g, 0, none⟩) (xs.length + 1) cc) (xs.length + 1) (bv (xs ++ [94]))) : Bys w (some ⟨g, 0, none⟩) xs ∧ cc ≤ maxLen ∧ B ≤ g ∧ w.cell? ⟨g, xs.length, none⟩ = some (.int .u8 94) := by
  rcases h.2 with ⟨h0, _⟩ | ⟨g', cap', cur, hv, hB, hg, hn, hc, hs, ht⟩
  · cases h0
  · cases hv
    have key : ∀ (j : Nat) (z : Int), (xs ++ [94])[j]? = some z → w.cell? ⟨g, j, none⟩ = some (.int .u8 z) := fun j z hj => by
      have h1 : (bv (xs ++ [94]))[j]? = some (.int .u8 z) := by unfold bv; rw [List.getElem?_map, hj]; rfl
      rw [← ht, List.getElem?_take] at h1
      split at h1
      · have hcb : w.cell? ⟨g, j, none⟩ = cur[j]? := by simp [World.cell?, hg]
        rw [hcb, ← Array.getElem?_toList]; exact h1
      · cases h1
    refine ⟨.inr ⟨g, 0, rfl, lt_of_blk hg, fun j z hj => ?_⟩, hc, hB, key _ _ (by simp)⟩
    rw [Nat.zero_add]
    refine key j z ?_
    have hlt : j < xs.length := by
      rcases Nat.lt_or_ge j xs.length with h | h
      · exact h
      · rw [List.getElem?_eq_none h] at hj; cases hj
    rw [List.getElem?_append_left hlt]; exact hj
theorem cell_low {w w' : World} {g j : Nat} {v : Value} (h : w.cell? ⟨g, j, none⟩ = some v) (hb : Below w.heap.size w w') : w'.cell? ⟨g, j, none⟩ = some v := by
  have hg : g < w.heap.size := by
    rcases Nat.lt_or_ge g w.heap.size with h1 | h1
    · exact h1
    · simp [World.cell?, Array.getElem?_eq_none h1] at h
  rw [← h]
  exact hb.cell (p := ⟨g, j, none⟩) hg
theorem upB_zero (xs : List Int) : upB xs 0 = xs := by simp [upB]
theorem upB_all (xs : List Int) : upB xs xs.length = xs.map tb := by simp [upB]
theorem upB_len (xs : List Int) (q : Nat) : (upB xs q).length = xs.length := by simp [upB]; omega
theorem upB_at {xs : List Int} {q : Nat} {x : Int} (h : xs[q]? = some x) : (upB xs q ++ [94])[q]? = some x := by
  have hq : q < xs.length := (List.getElem?_eq_some_iff.1 h).1
  rw [List.getElem?_append_left (by rw [upB_len]; exact hq)]
  unfold upB
  rw [List.getElem?_append_right (by simp; omega)]
  simp [Nat.min_eq_left (Nat.le_of_lt hq), h]
theorem upB_step {xs : List Int} {q : Nat} {x : Int} (h : xs[q]? = some x) : (upB xs q ++ [94]).set q (tb x) = upB xs (q + 1) ++ [94] := by
  obtain ⟨hq, hx⟩ := List.getElem?_eq_some_iff.1 h
  have h1 : upB xs q = (xs.take q).map tb ++ x :: xs.drop (q + 1) := by unfold upB; rw [List.drop_eq_getElem_cons hq, hx]
  have h2 : upB xs (q + 1) = (xs.take q).map tb ++ tb x :: xs.drop (q + 1) := by unfold upB; rw [List.take_add_one, h, Option.toList_some, List.map_append, List.append_assoc]; rfl
  rw [h1, h2, List.append_assoc, List.append_assoc, List.set_append_right _ _ (by simp; omega)]
  simp [Nat.min_eq_left (Nat.le_of_lt hq)]
theorem upB_stay {xs : List Int} {q : Nat} {x : Int} (h : xs[q]? = some x) (ht : tb x = x) : upB xs q ++ [94] = upB xs (q + 1) ++ [94] := by
  rw [← upB_step h, ht]
  refine (List.ext_getElem? fun j => ?_)
  rw [List.getElem?_set]
  split
  · rename_i hj; subst hj; rw [upB_at h]; split
    · rfl
    · rename_i hn; exact absurd (List.getElem?_eq_some_iff.1 (upB_at h)).1 hn
  · rfl
theorem tk_step {xs : List Int} {q : Nat} {x : Int} (h : xs[q]? = some x) : (xs.take (q + 1)).map tb = (xs.take q).map tb ++ [tb x] := by rw [List.take_add_one, h]; simp
theorem row_blk {w w' : World} {B e s n g cap : Nat} {xs : List Value} (h : w.ownsRow B e s (.slice (some ⟨g, 0, none⟩) n cap) n xs) (hk : w'.heap[g]? = w.heap[g]?) : w'.ownsRow B e s (.slice (some ⟨g, 0, none⟩) n cap) n xs := by
  refine ⟨h.1, ?_⟩
  rcases h.2 with h0 | ⟨g', cap', cur, hv, hB, hg, hn⟩
  · exact .inl h0
  · cases hv; exact .inr ⟨g, cap, cur, rfl, hB, hk.trans hg, hn⟩
theorem low_le {B B' : Nat} {w w' : World} (h : Below B w w') (hB : B' ≤ B) : Below B' w w' := ⟨h.os, h.tape, h.output, h.size, fun k hk => h.block k (by omega)⟩
theorem row_low {w w' : World} {B e s n : Nat} {v : Value} {xs : List Value} (h : w.ownsRow B e s v n xs) (hb : Below w.heap.size w w') : w'.ownsRow B e s v n xs := by
  refine ⟨h.1, ?_⟩
  rcases h.2 with h0 | ⟨g', cap', cur, hv, hB, hg, hn⟩
  · exact .inl h0
  · exact .inr ⟨g', cap', cur, hv, hB, kept_block hb hg, hn⟩
theorem row_pre2 {w : World} {B g cc n : Nat} {ys : List Int} (hn : ys.length = n) (h : w.ownsRow B 5 1 (.slice (some ⟨g, 0, none⟩) (n + 1) cc) (n + 1) (bv (ys ++ [94]))) : Bys w (some ⟨g, 0, none⟩) ys ∧ cc ≤ maxLen := by
  subst hn
  exact ⟨(row_pre h).1, (row_pre h).2.1⟩
theorem box_cell {w : World} {b : Nat} {st k : Int} {p : ByteArray} {la : Option Addr} {L lc : Nat} (h : w.heap[b]? = some (.cells (shA st p k la L lc) 25 (0, 0))) (o : Nat) (q d : ByteArray) (h0 : w.cell? ⟨b, o, none⟩ = some (.string q)) (h1 : w.cell? ⟨b, o + 1, none⟩ = some (.string d)) : False := by
  obtain ⟨a0, a1, a2, a3⟩ := cells_4 h
  have hc : ∀ i, 4 ≤ i → w.cell? ⟨b, i, none⟩ = none := fun i hi => by
    simp only [World.cell?, h]
    exact Array.getElem?_eq_none (by show 4 ≤ i; exact hi)
  rcases (show o = 0 ∨ o = 1 ∨ o = 2 ∨ o = 3 ∨ 4 ≤ o by omega) with rfl | rfl | rfl | rfl | h4
  · rw [a0] at h0; cases h0
  · rw [a2] at h1; cases h1
  · rw [a2] at h0; cases h0
  · rw [a3] at h0; cases h0
  · rw [hc o h4] at h0; cases h0
theorem ss_box {w : World} {b : Nat} {st k : Int} {p : ByteArray} {la la' : Option Addr} {L lc : Nat} {l : List SeenT} (hs : Ss w la' l) (h : w.heap[b]? = some (.cells (shA st p k la L lc) 25 (0, 0))) {w' : World} (hk : ∀ j, j ≠ b → w'.heap[j]? = w.heap[j]?) (hz : w.heap.size ≤ w'.heap.size) : Ss w' la' l := by
  cases hl : l with
  | nil => exact .inl rfl
  | cons s r =>
    have h0 : l[0]? = some s := by rw [hl]; rfl
    rw [← hl]
    rcases hs with h1 | ⟨b', o, ha, hlt, hc⟩
    · rw [h1] at hl; cases hl
    · have hne : b' ≠ b := fun e => by
        subst e
        exact box_cell h _ s.p s.d (hc 0 s h0 0 _ rfl) (hc 0 s h0 1 _ rfl)
      refine .inr ⟨b', o, ha, Nat.lt_of_lt_of_le hlt hz, fun i t hi j x hx => ?_⟩
      rw [World.cell?_of_block (w := w) (hk b' hne)]
      exact hc i t hi j x hx
theorem put4_size (w : World) (g : Nat) (x0 x1 x2 x3 : Value) : (put_4 w g x0 x1 x2 x3).heap.size = w.heap.size := by simp [put_4]
theorem put4_other (w : World) (g : Nat) (x0 x1 x2 x3 : Value) (j : Nat) (hj : j ≠ g) : (put_4 w g x0 x1 x2 x3).heap[j]? = w.heap[j]? := by
  unfold put_4
  rw [Below.heap_setCell _ _ _ _ hj, Below.heap_setCell _ _ _ _ hj, Below.heap_setCell _ _ _ _ hj, Below.heap_setCell _ _ _ _ hj]
theorem bys_kept {w w' : World} {a : Option Addr} {xs : List Int} (h : Bys w a xs) (hz : w.heap.size ≤ w'.heap.size) (hk : ∀ b o, a = some ⟨b, o, none⟩ → w'.heap[b]? = w.heap[b]?) : Bys w' a xs := by
  rcases h with h | ⟨b, o, ha, hlt, hc⟩
  · exact .inl h
  · refine .inr ⟨b, o, ha, Nat.lt_of_lt_of_le hlt hz, fun j z hj => ?_⟩
    rw [World.cell?_of_block (w := w) (hk b o ha)]
    exact hc j z hj
theorem bys_six {w : World} {g : Nat} {x0 x1 x2 x3 x4 x5 : Int} (h : w.heap[g]? = some (.cells #[.int .u8 x0, .int .u8 x1, .int .u8 x2, .int .u8 x3, .int .u8 x4, .int .u8 x5] 5 (0, 0))) : Bys w (some ⟨g, 0, none⟩) [x0, x1, x2, x3, x4, x5] := by
  refine .inr ⟨g, 0, rfl, lt_of_blk h, fun j z hj => ?_⟩
  rw [Nat.zero_add]
  simp only [World.cell?, h]
  have hj6 : j < 6 := (List.getElem?_eq_some_iff.1 hj).1
  rcases (show j = 0 ∨ j = 1 ∨ j = 2 ∨ j = 3 ∨ j = 4 ∨ j = 5 by omega) with rfl | rfl | rfl | rfl | rfl | rfl <;> (cases hj; rfl)
theorem ss_off {w w' : World} {b : Nat} {la : Option Addr} {l : List SeenT} (hs : Ss w la l) (hno : ∀ o q, w.cell? ⟨b, o, none⟩ = some (.string q) → False) (hk : ∀ j, j ≠ b → w'.heap[j]? = w.heap[j]?) (hz : w.heap.size ≤ w'.heap.size) : Ss w' la l := by
  rcases hs with h1 | ⟨b', o, ha, hlt, hc⟩
  · exact .inl h1
  · cases hl : l with
    | nil => exact .inl rfl
    | cons s r =>
      have h0 : l[0]? = some s := by rw [hl]; rfl
      rw [← hl]
      have hne : b' ≠ b := fun e => by
        subst e
        exact hno _ s.p (hc 0 s h0 0 _ rfl)
      refine .inr ⟨b', o, ha, Nat.lt_of_lt_of_le hlt hz, fun i t hi j x hx => ?_⟩
      rw [World.cell?_of_block (w := w) (hk b' hne)]
      exact hc i t hi j x hx
theorem six_no {w : World} {g : Nat} {x0 x1 x2 x3 x4 x5 : Int} (h : w.heap[g]? = some (.cells #[.int .u8 x0, .int .u8 x1, .int .u8 x2, .int .u8 x3, .int .u8 x4, .int .u8 x5] 5 (0, 0))) (o : Nat) (q : ByteArray) (hc : w.cell? ⟨g, o, none⟩ = some (.string q)) : False := by
  simp only [World.cell?, h] at hc
  rcases Nat.lt_or_ge o 6 with h6 | h6
  · rcases (show o = 0 ∨ o = 1 ∨ o = 2 ∨ o = 3 ∨ o = 4 ∨ o = 5 by omega) with rfl | rfl | rfl | rfl | rfl | rfl <;> cases hc
  · have h6' : (#[Value.int .u8 x0, .int .u8 x1, .int .u8 x2, .int .u8 x3, .int .u8 x4, .int .u8 x5] : Array Value).size ≤ o := h6
    rw [Array.getElem?_eq_none h6'] at hc
    cases hc
/-- What the end still looks at. -/
structure KT (W w : World) (b6 b7 : Nat) (st : Int) (p : ByteArray) (k : Int) (la lb : Option Addr) (L lc ld : Nat) (l : List SeenT) : Prop where
  low : Below W.heap.size W w
  x6 : w.heap[b6]? = some (.cells (shA st p k la L lc) 25 (0, 0))
  x7 : w.heap[b7]? = some (.cells (shA st p k lb L ld) 25 (0, 0))
  s6 : Ss w la l
  s7 : Ss w lb l
theorem KT.below {W w w' : World} {b6 b7 : Nat} {st : Int} {p : ByteArray} {k : Int} {la lb : Option Addr} {L lc ld : Nat} {l : List SeenT} (h : KT W w b6 b7 st p k la lb L lc ld l) (hb : Below w.heap.size w w') : KT W w' b6 b7 st p k la lb L lc ld l := ⟨trans2 h.low hb, kept_block hb h.x6, kept_block hb h.x7, h.s6.below hb, h.s7.below hb⟩
theorem KT.set {W w : World} {b6 b7 : Nat} {st : Int} {p : ByteArray} {k : Int} {la lb : Option Addr} {L lc ld : Nat} {l : List SeenT} (h : KT W w b6 b7 st p k la lb L lc ld l) {g o : Nat} {v : Value} (hno : ∀ o q, w.cell? ⟨g, o, none⟩ = some (.string q) → False) (h6 : b6 ≠ g) (h7 : b7 ≠ g) (hg : W.heap.size ≤ g) : KT W (w.setCell ⟨g, o, none⟩ v) b6 b7 st p k la lb L lc ld l :=
  ⟨h.low.setCell hg _, (Below.heap_setCell w ⟨g, o, none⟩ v b6 h6).trans h.x6, (Below.heap_setCell w ⟨g, o, none⟩ v b7 h7).trans h.x7, ss_off h.s6 hno (fun j hj => Below.heap_setCell w ⟨g, o, none⟩ v j hj) (Nat.le_of_eq (by simp)), ss_off h.s7 hno (fun j hj => Below.heap_setCell w ⟨g, o, none⟩ v j hj) (Nat.le_of_eq (by simp))⟩
theorem own_ne {w : World} {B n c g : Nat} {a : Option Addr} {xs : List Value} (h : w.ownsRow B 5 1 (.slice a n c) n xs) (hg : g < B) : ∀ b o, a = some ⟨b, o, none⟩ → b ≠ g := fun b o ha => by
  subst ha
  rcases h.2 with ⟨h0, _⟩ | ⟨g', cap', cur, hv, hB, _⟩
  · cases h0
  · cases hv
    omega
set_option maxHeartbeats 12800000 in
set_option maxRecDepth 100000 in
theorem decodes_walk (W : World) (a : Option Addr) (c0 : Nat) (xs : List Int) (long : Int) (hx : Bys W a xs) (hb : Byt xs) (hn : a = none → c0 = 0) (hc : xs.length ≤ c0) (hcm : c0 ≤ maxLen) (hg : Ground W) :
    Calls Tryd.prog 3 #[.slice a xs.length c0, .int .i64 long] W fun e w' => e = .returned (.bool true) ∧ Below W.heap.size W w' := by
  by_cases hl : xs.length ≤ 40000
  · have hl' : ¬ (40000 : Int) < (xs.length : Int) := by omega
    have HX : Hid (Bys W a xs) := hx
    have HB : Hid (Byt xs) := hb
    have HN : Hid (a = none → c0 = 0) := hn
    have HC : Hid (xs.length ≤ c0 ∧ c0 ≤ maxLen) := ⟨hc, hcm⟩
    have HG : Hid (Ground W) := hg
    have HL : Hid (xs.length ≤ 40000) := hl
    clear hx hb hn hc hcm hg hl
    by_cases h0 : 0 ≤ long
    · by_cases h2 : long ≤ 2
      · obtain ⟨n, hn⟩ : ∃ n : Nat, (n : Int) = 262144 + long := ⟨(262144 + long).toNat, by omega⟩
        have hn6 : n ≤ 1000000 := by omega
        obtain ⟨M, hM, hmk⟩ := make_b n hn6
        have HM : Hid (∀ j, j < n → M[j]? = some (.int .u8 0)) := hM
        have hwr : IntKind.i64.wrap (262144 + long) = (n : Int) := by rw [IntKind.wrap_i64]; omega
        have hw2 : (262144 + long : Int) = (n : Int) := hn.symm
        have HD : Hid (Calls Tryd.prog 4 #[.slice (some ⟨W.heap.size, 0, none⟩) n n] (W.alloc (.cells M 5)) fun e w' => DecEnd (List.replicate n 0) (W.alloc (.cells M 5)) w' e) := by
          have := decode_any (some ⟨W.heap.size, 0, none⟩) n (List.replicate n 0) (W.alloc (.cells M 5)) (HG.out.below ((Below.refl _ _).alloc (Nat.le_refl _) _)) (bys_made (heap_alloc_new _ _) HM.out) (byt_made n) (by rw [List.length_replicate]; exact hn6) (by rw [List.length_replicate]; exact Nat.le_refl _) (by unfold maxLen; omega)
          rw [List.length_replicate] at this
          exact this
        clear hM hn
        go_enter Tryd.func3, Tryd.ntmps3
        go_wp2_with fail
        refine Calls.mono HD.out ?_
        rintro e w1 ⟨st, p, k, la, lc, l, code, rfl, hs1, hr1, hb1⟩
        obtain ⟨L, hL⟩ : ∃ L, l.length = L := ⟨_, rfl⟩
        rw [hL]
        have HLL : Hid (l.length = L) := hL
        have HR1 : Hid (DecRes (List.replicate n 0) code st p k l) := hr1
        have HX1 : Hid (BX (w1.alloc (.cells (shA st p k la L lc) 25)) w1.heap.size st p k la L lc l) := ⟨heap_alloc_new _ _, hs1.below ((Below.refl _ _).alloc (Nat.le_refl _) _)⟩
        have HB1 : Hid (Below W.heap.size W (w1.alloc (.cells (shA st p k la L lc) 25))) := trans2 (trans2 ((Below.refl _ _).alloc (Nat.le_refl _) _) hb1) ((Below.refl _ _).alloc (Nat.le_refl _) _)
        have HMB : Hid ((w1.alloc (.cells (shA st p k la L lc) 25)).heap[W.heap.size]? = some (.cells M 5 (0, 0))) := new_old (kept_block hb1 (heap_alloc_new _ _)) _
        have HRD : Hid (Calls Tryd.prog 5 #[.slice (some ⟨W.heap.size, 0, none⟩) n n] (w1.alloc (.cells (shA st p k la L lc) 25)) fun e w' => DecEnd (List.replicate n 0) (w1.alloc (.cells (shA st p k la L lc) 25)) w' e) := by
          have := refDecode_any (some ⟨W.heap.size, 0, none⟩) n (List.replicate n 0) (w1.alloc (.cells (shA st p k la L lc) 25)) (bys_made HMB.out HM.out) (byt_made n) (by rw [List.length_replicate]; exact hn6) (by rw [List.length_replicate]; exact Nat.le_refl _) (by unfold maxLen; omega)
          rw [List.length_replicate] at this
          exact this
        clear hL hs1 hr1 hb1
        go_wp2_with fail
        refine Calls.mono HRD.out ?_
        rintro e w2 ⟨st', p', k', lb, ld, l', code', rfl, hs2, hr2, hb2⟩
        obtain ⟨rfl, rfl, rfl, rfl, rfl⟩ := HR1.out.one hr2
        rw [HLL.out]
        have HX1' : Hid (BX (w2.alloc (.cells (shA st p k lb L ld) 25)) w1.heap.size st p k la L lc l) := (HX1.out.below hb2).below ((Below.refl _ _).alloc (Nat.le_refl _) _)
        have HX2 : Hid (BX (w2.alloc (.cells (shA st p k lb L ld) 25)) w2.heap.size st p k lb L ld l) := ⟨heap_alloc_new _ _, hs2.below ((Below.refl _ _).alloc (Nat.le_refl _) _)⟩
        have HB2 : Hid (Below W.heap.size W (w2.alloc (.cells (shA st p k lb L ld) 25))) := trans2 (trans2 HB1.out hb2) ((Below.refl _ _).alloc (Nat.le_refl _) _)
        have HLM : Hid (L ≤ maxLen) := by show _ ≤ _; rw [← HLL.out]; exact decRes_len HR1.out
        clear hs2 hr2 hb2
        go_wp2_with fail
        refine (num_any _ _).mono ?_
        rintro e w3 ⟨rfl, rfl⟩
        obtain ⟨a0, a1, a2, a3⟩ := cells_4 HX1'.out.box
        obtain ⟨b0, b1, b2, b3⟩ := cells_4 HX2.out.box
        go_wp2_with fail
        clear a0 a1 a2 a3 b0 b1 b2 b3
        refine (alike_same st p k la lb L lc ld l _ HLL.out HX1'.out.ss HX2.out.ss HLM.out).mono ?_
        rintro e w3 ⟨rfl, hb3⟩
        have HW3 : Hid (Below W.heap.size W w3) := trans2 HB2.out hb3
        clear hb3 hmk hwr hw2
        have HLX : Hid (xs.length ≤ 10000) → True := fun _ => trivial
        clear HLX
        have hsz0 := HW3.out.size
        go_wp2_with (first
          | (at_builtin; refine wpList_appD rfl _ _ rfl w3.heap.size v4 xs rfl (World.ownsRow.alloc HO4.out _) (some ⟨w4.heap.size, 0, none⟩) 1 1 [94] rfl rfl (bys_one (heap_alloc_new _ _)) (fun h => by cases h) (by have := HL.out; simp; omega) (by simp; omega) ?_
             intro v5 w5 ho5 hg5 hat5
             have HO5 : Hid (w5.ownsRow w3.heap.size 5 1 v5 (xs ++ [94]).length (bv (xs ++ [94]))) := ho5
             have HW5 : Hid (Below W.heap.size W w5) := (HW4.out.alloc HW4.out.size _).trans ((Below.refl _ _).grown hg5 (by have := HW4.out.size; simp; omega) (fun j hj => Nat.le_trans HW3.out.size (HO4.out.lt j hj).1))
             clear ho5 hg5 hat5
             obtain ⟨gg, cc, hv5, hnc5⟩ := owns_form HO5.out
             obtain ⟨g, rfl⟩ : ∃ g, gg = some ⟨g, 0, none⟩ := by
               rcases HO5.out.2 with ⟨h0, h1⟩ | ⟨g', cap', cur, hv, _⟩
               · exact absurd h1 (by simp)
               · rw [hv5] at hv; cases hv; exact ⟨g', rfl⟩
             subst hv5
             have HO5' : Hid (w5.ownsRow w3.heap.size 5 1 (.slice (some ⟨g, 0, none⟩) (xs.length + 1) cc) (xs.length + 1) (bv (xs ++ [94]))) := by have := HO5.out; rw [List.length_append] at this; exact this
             have hcc : xs.length + 1 ≤ cc := owns_cap HO5'.out
             have hcI : (xs.length : Int) ≤ (cc : Int) := by omega
             clear hnc5)
          | (at_builtin; refine wpList_appD rfl _ _ rfl w3.heap.size (.slice none 0 0) [] rfl (World.ownsRow_nil _ _ _ _) a xs.length c0 xs rfl rfl (HX.out.below HW3.out) HN.out (by have := HL.out; simp; omega) (Nat.le_refl _) ?_
             intro v4 w4 ho4 hg4 hat4
             have HO4 : Hid (w4.ownsRow w3.heap.size 5 1 v4 xs.length (bv xs)) := ho4
             have HW4 : Hid (Below W.heap.size W w4) := HW3.out.trans ((Below.refl _ _).grown hg4 HW3.out.size (fun j hj => by cases hj))
             have hs34 : w3.heap.size ≤ w4.heap.size := hg4.size
             clear ho4 hg4 hat4)
          | fail)
        have HRP : Hid (Bys w5 (some ⟨g, 0, none⟩) xs ∧ cc ≤ maxLen ∧ w3.heap.size ≤ g ∧ w5.cell? ⟨g, xs.length, none⟩ = some (.int .u8 94)) := row_pre HO5'.out
        refine (decode_any (some ⟨g, 0, none⟩) cc xs w5 (HG.out.below HW5.out) HRP.out.1 HB.out (by have := HL.out; omega) (by omega) HRP.out.2.1).mono ?_
        rintro e w6 ⟨st5, p5, k5, la5, lc5, l5, code5, rfl, hs6, hr6, hb6⟩
        obtain ⟨L5, hL5⟩ : ∃ L, l5.length = L := ⟨_, rfl⟩
        rw [hL5]
        have HLL5 : Hid (l5.length = L5) := hL5
        have HR5 : Hid (DecRes xs code5 st5 p5 k5 l5) := hr6
        have HX6 : Hid (BX (w6.alloc (.cells (shA st5 p5 k5 la5 L5 lc5) 25)) w6.heap.size st5 p5 k5 la5 L5 lc5 l5) := ⟨heap_alloc_new _ _, hs6.below ((Below.refl _ _).alloc (Nat.le_refl _) _)⟩
        have HB6 : Hid (Below w5.heap.size w5 (w6.alloc (.cells (shA st5 p5 k5 la5 L5 lc5) 25))) := trans2 hb6 ((Below.refl _ _).alloc (Nat.le_refl _) _)
        have hz6 : w5.heap.size ≤ w6.heap.size := hb6.size
        clear hL5 hs6 hr6 hb6
        go_wp2_with fail
        refine (refDecode_any a c0 xs _ (HX.out.below (trans2 HW5.out HB6.out)) HB.out (by have := HL.out; omega) HC.out.1 HC.out.2).mono ?_
        rintro e w7 ⟨st7, p7, k7, la7, lc7, l7, code7, rfl, hs7, hr7, hb7⟩
        obtain ⟨rfl, rfl, rfl, rfl, rfl⟩ := HR5.out.one hr7
        rw [HLL5.out]
        have HX6' : Hid (BX (w7.alloc (.cells (shA st5 p5 k5 la7 L5 lc7) 25)) w6.heap.size st5 p5 k5 la5 L5 lc5 l5) := (HX6.out.below hb7).below ((Below.refl _ _).alloc (Nat.le_refl _) _)
        have HX7 : Hid (BX (w7.alloc (.cells (shA st5 p5 k5 la7 L5 lc7) 25)) w7.heap.size st5 p5 k5 la7 L5 lc7 l5) := ⟨heap_alloc_new _ _, hs7.below ((Below.refl _ _).alloc (Nat.le_refl _) _)⟩
        have HB7 : Hid (Below w5.heap.size w5 (w7.alloc (.cells (shA st5 p5 k5 la7 L5 lc7) 25))) := trans2 (trans2 HB6.out hb7) ((Below.refl _ _).alloc (Nat.le_refl _) _)
        have HLM5 : Hid (L5 ≤ maxLen) := by show _ ≤ _; rw [← HLL5.out]; exact decRes_len HR5.out
        have hz7 : w6.heap.size + 1 ≤ w7.heap.size := by have := hb7.size; simpa using this
        clear hs7 hr7 hb7
        go_wp2_with fail
        refine (num_any _ _).mono ?_
        rintro e w8 ⟨rfl, rfl⟩
        obtain ⟨a0, a1, a2, a3⟩ := cells_4 HX6'.out.box
        obtain ⟨b0, b1, b2, b3⟩ := cells_4 HX7.out.box
        go_wp2_with fail
        clear a0 a1 a2 a3 b0 b1 b2 b3
        refine (alike_same st5 p5 k5 la5 la7 L5 lc5 lc7 l5 _ HLL5.out HX6'.out.ss HX7.out.ss HLM5.out).mono ?_
        rintro e w8 ⟨rfl, hb8⟩
        have HB8 : Hid (Below w5.heap.size w5 w8) := trans2 HB7.out hb8
        have HX8 : Hid (BX w8 w6.heap.size st5 p5 k5 la5 L5 lc5 l5) := HX6'.out.below hb8
        have HX8' : Hid (BX w8 w7.heap.size st5 p5 k5 la7 L5 lc7 l5) := HX7.out.below hb8
        have hz8 : w7.heap.size + 1 ≤ w8.heap.size := by have := hb8.size; simpa using this
        clear hb8
        go_wp2_with fail
        refine (sameBytes_any (some ⟨g, 0, none⟩) a cc c0 xs xs w8 (HRP.out.1.below HB8.out) (HX.out.below (trans2 HW5.out HB8.out)) (by have := HL.out; unfold maxLen; omega)).mono ?_
        rintro e w9 ⟨rfl, m, rfl⟩
        rw [decide_eq_true (rfl : xs = xs)]
        have h94 : (w8.drewN m).cell? ⟨g, xs.length, none⟩ = some (.int .u8 94) := by show w8.cell? _ = _; exact cell_low HRP.out.2.2.2 HB8.out
        go_wp2_with fail
        clear h94
        have HGL : Hid (g < w5.heap.size) := (World.ownsRow.lt HO5'.out g rfl).2
        have HS6 : Hid (w5.heap.size ≤ w6.heap.size) := hz6
        have HS7 : Hid (w6.heap.size + 1 ≤ w7.heap.size) := hz7
        have HS8 : Hid (w7.heap.size + 1 ≤ w8.heap.size) := hz8
        have HG6 : Hid (g < w6.heap.size) := by have := HGL.out; show _ < _; omega
        have HG7 : Hid (g < w7.heap.size) := by have := HGL.out; show _ < _; omega
        have HG8 : Hid (g < w8.heap.size) := by have := HGL.out; show _ < _; omega
        have H68 : Hid (w6.heap.size < w8.heap.size) := by show _ < _; omega
        have H78 : Hid (w7.heap.size < w8.heap.size) := by show _ < _; omega
        have HW8 : Hid (W.heap.size ≤ w8.heap.size) := (trans2 HW5.out HB8.out).size
        clear hz6 hz7 hz8
        go_loopw [15, 16] (fun v i wr => ∃ q : Nat, i = .int .i64 q ∧ q ≤ xs.length ∧ Hid (wr.ownsRow W.heap.size 5 1 (.slice (some ⟨g, 0, none⟩) (xs.length + 1) cc) (xs.length + 1) (bv (upB xs q ++ [94]))) ∧ Hid (wr.ownsRow w8.heap.size 5 1 v ((xs.take q).map tb).length (bv ((xs.take q).map tb))) ∧ Hid (Below W.heap.size W wr) ∧ Hid (wr.heap[w6.heap.size]? = some (.cells (shA st5 p5 k5 la5 L5 lc5) 25 (0, 0))) ∧ Hid (wr.heap[w7.heap.size]? = some (.cells (shA st5 p5 k5 la7 L5 lc7) 25 (0, 0))) ∧ Hid (w8.heap.size ≤ wr.heap.size)) (fun _ i _ => xs.length - (intOf i).toNat)
        case atStart => exact ⟨0, rfl, Nat.zero_le _, by rw [upB_zero]; exact row_low (ownsLowF HO5'.out HW3.out.size) (below_drewN HB8.out _), World.ownsRow_nil _ _ _ _, trans2 HW5.out (below_drewN HB8.out _), HX8.out.box, HX8'.out.box, Nat.le_refl _⟩
        case round =>
          obtain ⟨q, rfl, hq, HOr, HNr, HWr, Hb6, Hb7, HZr⟩ := hrel
          by_cases hlt : q < xs.length
          · obtain ⟨x, hx⟩ : ∃ x, xs[q]? = some x := ⟨xs[q], List.getElem?_eq_getElem hlt⟩
            have HXq : Hid (xs[q]? = some x) := hx
            have hxb := HB.out x (List.mem_of_getElem? hx)
            have hcq : wr.cell? ⟨g, q, none⟩ = some (.int .u8 x) := by rw [HOr.out.cellAt q (by omega)]; unfold bv; rw [List.getElem?_map, upB_at hx]; rfl
            have hqc : (q : Int) < (xs.length : Int) + 1 := by omega
            clear hx
            by_cases hA : 97 ≤ x ∧ x < 122
            · obtain ⟨hA1, hA2⟩ := hA
              have HT : Hid (tb x = x + 1) := by show _ = _; unfold tb; rw [if_pos ⟨hA1, hA2⟩]
              have hwp : IntKind.u8.wrap (x + 1) = x + 1 := by first | (rw [IntKind.wrap_u8]; omega) | (simp [IntKind.wrap]; omega) | (simp [IntKind.wrap, IntKind.bits, IntKind.signed]; omega)
              have hfz : wr.frozen? ⟨g, q, none⟩ = false := HOr.out.frozenAt q
              have hst := HOr.out.stored q (.int .u8 (x + 1))
              have HOs : Hid ((wr.setCell ⟨g, q, none⟩ (.int .u8 (x + 1))).ownsRow W.heap.size 5 1 (.slice (some ⟨g, 0, none⟩) (xs.length + 1) cc) (xs.length + 1) (bv (upB xs (q + 1) ++ [94]))) := by
                have h := hst.1
                rw [show (bv (upB xs q ++ [94])).set q (.int .u8 (x + 1)) = bv ((upB xs q ++ [94]).set q (tb x)) by rw [HT.out]; unfold bv; rw [List.map_set], upB_step HXq.out] at h
                exact h
              have HNs : Hid ((wr.setCell ⟨g, q, none⟩ (.int .u8 (x + 1))).ownsRow w8.heap.size 5 1 u15 ((xs.take q).map tb).length (bv ((xs.take q).map tb))) := HNr.out.kept hst.2 (by
                cases hu : u15.ownBlock with
                | none => exact .inl rfl
                | some k => exact .inr (fun h => by cases h; have := (HNr.out.lt _ hu).1; have := HG8.out; omega))
              have HWs : Hid (Below W.heap.size W (wr.setCell ⟨g, q, none⟩ (.int .u8 (x + 1)))) := HWr.out.grown hst.2 HWr.out.size (fun j hj => by cases hj; exact (World.ownsRow.lt HOr.out g rfl).1)
              have Hs6 : Hid ((wr.setCell ⟨g, q, none⟩ (.int .u8 (x + 1))).heap[w6.heap.size]? = some (.cells (shA st5 p5 k5 la5 L5 lc5) 25 (0, 0))) := (Below.heap_setCell wr _ _ _ (by have := HG6.out; show _ ≠ g; omega)).trans Hb6.out
              have Hs7 : Hid ((wr.setCell ⟨g, q, none⟩ (.int .u8 (x + 1))).heap[w7.heap.size]? = some (.cells (shA st5 p5 k5 la7 L5 lc7) 25 (0, 0))) := (Below.heap_setCell wr _ _ _ (by have := HG7.out; show _ ≠ g; omega)).trans Hb7.out
              have HZs : Hid (w8.heap.size ≤ (wr.setCell ⟨g, q, none⟩ (.int .u8 (x + 1))).heap.size) := by have := HZr.out; show _ ≤ _; simpa using this
              have hcs : (wr.setCell ⟨g, q, none⟩ (.int .u8 (x + 1))).cell? ⟨g, q, none⟩ = some (.int .u8 (x + 1)) := by
                rw [hst.1.cellAt q (by omega)]
                rw [List.getElem?_set_self (by rw [bv_len, List.length_append, upB_len]; omega)]
              clear hst
              go_wp2_with (first
                | (at_builtin; refine wpList_appD rfl _ _ rfl w8.heap.size u15 ((xs.take q).map tb) rfl (World.ownsRow.alloc HNs.out _) (some ⟨wr.heap.size, 0, none⟩) 1 1 [x + 1] rfl rfl (bys_one (heap_new' (by simp))) (fun h => by cases h) (by have := HL.out; simp; omega) (Nat.le_trans HZs.out (by simp)) ?_
                   intro v2 wn hon hgn hatn
                   have HON : Hid (wn.ownsRow w8.heap.size 5 1 v2 ((xs.take (q + 1)).map tb).length (bv ((xs.take (q + 1)).map tb))) := by show World.ownsRow _ _ _ _ _ _ _; rw [tk_step HXq.out, HT.out]; exact hon
                   have HBn : Hid (Below w8.heap.size (wr.setCell ⟨g, q, none⟩ (.int .u8 (x + 1))) wn) := ((Below.refl w8.heap.size (wr.setCell ⟨g, q, none⟩ (.int .u8 (x + 1)))).alloc HZs.out _).trans ((Below.refl _ _).grown hgn (Nat.le_trans HZs.out (by simp)) (fun j hj => (HNs.out.lt j hj).1))
                   clear hon hgn hatn)
                | fail)
              go_roundw
              case rel => exact ⟨q + 1, by go_num, by omega, row_blk HOs.out (HBn.out.block g HG8.out), HON, HWs.out.trans (low_le HBn.out HW8.out), (HBn.out.block _ H68.out).trans Hs6.out, (HBn.out.block _ H78.out).trans Hs7.out, Nat.le_trans HZs.out HBn.out.size⟩
              case measure => simp [intOf]; omega
            · have HT : Hid (tb x = x) := by show _ = _; unfold tb; rw [if_neg hA]
              have HOs : Hid (wr.ownsRow W.heap.size 5 1 (.slice (some ⟨g, 0, none⟩) (xs.length + 1) cc) (xs.length + 1) (bv (upB xs (q + 1) ++ [94]))) := by have := HOr.out; rw [upB_stay HXq.out HT.out] at this; exact this
              have HNs := HNr
              have HWs := HWr
              have Hs6 := Hb6
              have Hs7 := Hb7
              have HZs := HZr
              by_cases hA1 : 97 ≤ x
              · have hA2 : ¬ x < 122 := fun h => hA ⟨hA1, h⟩
                clear hA
                go_wp2_with (first
                  | (at_builtin; refine wpList_appD rfl _ _ rfl w8.heap.size u15 ((xs.take q).map tb) rfl (World.ownsRow.alloc HNs.out _) (some ⟨wr.heap.size, 0, none⟩) 1 1 [x] rfl rfl (bys_one (heap_alloc_new _ _)) (fun h => by cases h) (by have := HL.out; simp; omega) (Nat.le_trans HZs.out (by simp)) ?_
                     intro v2 wn hon hgn hatn
                     have HON : Hid (wn.ownsRow w8.heap.size 5 1 v2 ((xs.take (q + 1)).map tb).length (bv ((xs.take (q + 1)).map tb))) := by show World.ownsRow _ _ _ _ _ _ _; rw [tk_step HXq.out, HT.out]; exact hon
                     have HBn : Hid (Below w8.heap.size wr wn) := ((Below.refl w8.heap.size wr).alloc HZs.out _).trans ((Below.refl _ _).grown hgn (Nat.le_trans HZs.out (by simp)) (fun j hj => (HNs.out.lt j hj).1))
                     clear hon hgn hatn)
                  | fail)
                go_roundw
                case rel => exact ⟨q + 1, by go_num, by omega, row_blk HOs.out (HBn.out.block g HG8.out), HON, HWs.out.trans (low_le HBn.out HW8.out), (HBn.out.block _ H68.out).trans Hs6.out, (HBn.out.block _ H78.out).trans Hs7.out, Nat.le_trans HZs.out HBn.out.size⟩
                case measure => simp [intOf]; omega
              · clear hA
                go_wp2_with (first
                  | (at_builtin; refine wpList_appD rfl _ _ rfl w8.heap.size u15 ((xs.take q).map tb) rfl (World.ownsRow.alloc HNs.out _) (some ⟨wr.heap.size, 0, none⟩) 1 1 [x] rfl rfl (bys_one (heap_alloc_new _ _)) (fun h => by cases h) (by have := HL.out; simp; omega) (Nat.le_trans HZs.out (by simp)) ?_
                     intro v2 wn hon hgn hatn
                     have HON : Hid (wn.ownsRow w8.heap.size 5 1 v2 ((xs.take (q + 1)).map tb).length (bv ((xs.take (q + 1)).map tb))) := by show World.ownsRow _ _ _ _ _ _ _; rw [tk_step HXq.out, HT.out]; exact hon
                     have HBn : Hid (Below w8.heap.size wr wn) := ((Below.refl w8.heap.size wr).alloc HZs.out _).trans ((Below.refl _ _).grown hgn (Nat.le_trans HZs.out (by simp)) (fun j hj => (HNs.out.lt j hj).1))
                     clear hon hgn hatn)
                  | fail)
                go_roundw
                case rel => exact ⟨q + 1, by go_num, by omega, row_blk HOs.out (HBn.out.block g HG8.out), HON, HWs.out.trans (low_le HBn.out HW8.out), (HBn.out.block _ H68.out).trans Hs6.out, (HBn.out.block _ H78.out).trans Hs7.out, Nat.le_trans HZs.out HBn.out.size⟩
                case measure => simp [intOf]; omega
          · have hqe : q = xs.length := by omega
            subst hqe
            have HOe : Hid (wr.ownsRow W.heap.size 5 1 (.slice (some ⟨g, 0, none⟩) (xs.length + 1) cc) (xs.length + 1) (bv (xs.map tb ++ [94]))) := by have := HOr.out; rw [upB_all] at this; exact this
            have HNe : Hid (wr.ownsRow w8.heap.size 5 1 u15 xs.length (bv (xs.map tb))) := by have := HNr.out; rw [List.take_length, List.length_map] at this; exact this
            clear HOr HNr
            have HRe : Hid (Bys wr (some ⟨g, 0, none⟩) (xs.map tb) ∧ cc ≤ maxLen) := row_pre2 (List.length_map _) HOe.out
            obtain ⟨na, nc, hun, hbn, hnn, hn0, hn1, hn2⟩ := bys_of_owns HNe.out
            rw [List.length_map] at hun hn1
            subst hun
            have HBN : Hid (Bys wr na (xs.map tb) ∧ xs.length ≤ nc ∧ nc ≤ maxLen) := ⟨hbn, hn1, hn2⟩
            clear hbn hn0 hn1 hn2
            have HD2 : Hid (Calls Tryd.prog 4 #[.slice (some ⟨g, 0, none⟩) xs.length cc] wr fun e w' => DecEnd (xs.map tb) wr w' e) := by
              have := decode_any (some ⟨g, 0, none⟩) cc (xs.map tb) wr (HG.out.below HWr.out) HRe.out.1 (byt_tb HB.out) (by rw [List.length_map]; have := HL.out; omega) (by rw [List.length_map]; omega) HRe.out.2
              rw [List.length_map] at this
              exact this
            go_wp2_with fail
            refine Calls.mono HD2.out ?_
            rintro e wA ⟨stA, pA, kA, laA, lcA, lA, codeA, rfl, hsA, hrA, hbA⟩
            obtain ⟨LA, hLA⟩ : ∃ L, lA.length = L := ⟨_, rfl⟩
            rw [hLA]
            have HLA : Hid (lA.length = LA) := hLA
            have HRA : Hid (DecRes (xs.map tb) codeA stA pA kA lA) := hrA
            have HBA : Hid (Below wr.heap.size wr wA) := hbA
            have HSA : Hid (Ss wA laA lA) := hsA
            have H6A : Hid (wA.heap[w6.heap.size]? = some (.cells (shA st5 p5 k5 la5 L5 lc5) 25 (0, 0))) := kept_block hbA Hb6.out
            have H7A : Hid (wA.heap[w7.heap.size]? = some (.cells (shA st5 p5 k5 la7 L5 lc7) 25 (0, 0))) := kept_block hbA Hb7.out
            clear hLA hrA hbA hsA
            obtain ⟨s0, s1, s2, s3⟩ := cells_4 H6A.out
            have f4 := free_4 H6A.out
            go_wp2_with fail
            clear s0 s1 s2 s3 f4
            have HW6 : Hid (W.heap.size ≤ w6.heap.size) := by have := HW5.out.size; have := HS6.out; show _ ≤ _; omega
            have HBB : Hid (Below W.heap.size W (put_4 wA w6.heap.size (.int .i64 stA) (.string pA) (.int .i64 kA) (.slice laA LA lcA))) := fillB_4 (trans2 HWr.out HBA.out) HW6.out
            have H6B : Hid ((put_4 wA w6.heap.size (.int .i64 stA) (.string pA) (.int .i64 kA) (.slice laA LA lcA)).heap[w6.heap.size]? = some (.cells (shA stA pA kA laA LA lcA) 25 (0, 0))) := fill_4 H6A.out
            have H7B : Hid ((put_4 wA w6.heap.size (.int .i64 stA) (.string pA) (.int .i64 kA) (.slice laA LA lcA)).heap[w7.heap.size]? = some (.cells (shA st5 p5 k5 la7 L5 lc7) 25 (0, 0))) := fillO_4 H7A.out (by have := HS7.out; omega)
            have HSB : Hid (Ss (put_4 wA w6.heap.size (.int .i64 stA) (.string pA) (.int .i64 kA) (.slice laA LA lcA)) laA lA) := ss_box HSA.out H6A.out (fun j hj => put4_other _ _ _ _ _ _ j hj) (Nat.le_of_eq (put4_size _ _ _ _ _ _).symm)
            have HND : Hid (Bys (put_4 wA w6.heap.size (.int .i64 stA) (.string pA) (.int .i64 kA) (.slice laA LA lcA)) na (xs.map tb)) := bys_kept (HBN.out.1.below HBA.out) (Nat.le_of_eq (put4_size _ _ _ _ _ _).symm) (fun b o hb => put4_other _ _ _ _ _ _ b (own_ne HNe.out H68.out b o hb))
            have HRD2 : Hid (Calls Tryd.prog 5 #[.slice na xs.length nc] (put_4 wA w6.heap.size (.int .i64 stA) (.string pA) (.int .i64 kA) (.slice laA LA lcA)) fun e w' => DecEnd (xs.map tb) (put_4 wA w6.heap.size (.int .i64 stA) (.string pA) (.int .i64 kA) (.slice laA LA lcA)) w' e) := by
              have := refDecode_any na nc (xs.map tb) _ HND.out (byt_tb HB.out) (by rw [List.length_map]; have := HL.out; omega) (by rw [List.length_map]; exact HBN.out.2.1) HBN.out.2.2
              rw [List.length_map] at this
              exact this
            refine Calls.mono HRD2.out ?_
            rintro e wC ⟨stC, pC, kC, laC, lcC, lC, codeC, rfl, hsC, hrC, hbC⟩
            obtain ⟨rfl, rfl, rfl, rfl, rfl⟩ := HRA.out.one hrC
            rw [HLA.out]
            have HBC : Hid (Below W.heap.size W wC) := trans2 HBB.out hbC
            have H6C : Hid (wC.heap[w6.heap.size]? = some (.cells (shA stA pA kA laA LA lcA) 25 (0, 0))) := kept_block hbC H6B.out
            have H7C : Hid (wC.heap[w7.heap.size]? = some (.cells (shA st5 p5 k5 la7 L5 lc7) 25 (0, 0))) := kept_block hbC H7B.out
            have HSC : Hid (Ss wC laA lA) := HSB.out.below hbC
            have HSD : Hid (Ss wC laC lA) := hsC
            clear hbC hsC hrC
            obtain ⟨s0, s1, s2, s3⟩ := cells_4 H7C.out
            have f4 := free_4 H7C.out
            go_wp2_with fail
            clear s0 s1 s2 s3 f4
            have HW7 : Hid (W.heap.size ≤ w7.heap.size) := by have := HW6.out; have := HS7.out; show _ ≤ _; omega
            have HKD0 : Hid (KT W (put_4 wC w7.heap.size (.int .i64 stA) (.string pA) (.int .i64 kA) (.slice laC LA lcC)) w6.heap.size w7.heap.size stA pA kA laA laC LA lcA lcC lA) := ⟨fillB_4 HBC.out HW7.out, fillO_4 H6C.out (by have := HS7.out; omega), fill_4 H7C.out, ss_box HSC.out H7C.out (fun j hj => put4_other _ _ _ _ _ _ j hj) (Nat.le_of_eq (put4_size _ _ _ _ _ _).symm), ss_box HSD.out H7C.out (fun j hj => put4_other _ _ _ _ _ _ j hj) (Nat.le_of_eq (put4_size _ _ _ _ _ _).symm)⟩
            have HZ0 : Hid ((put_4 wC w7.heap.size (.int .i64 stA) (.string pA) (.int .i64 kA) (.slice laC LA lcC)).heap.size = wC.heap.size) := put4_size _ _ _ _ _ _
            unfold put_4 at HKD0 HZ0
            generalize hwD : (((wC.setCell ⟨w7.heap.size, 0, none⟩ (.int .i64 stA)).setCell ⟨w7.heap.size, 1, none⟩ (.string pA)).setCell ⟨w7.heap.size, 2, none⟩ (.int .i64 kA)).setCell ⟨w7.heap.size, 3, none⟩ (.slice laC LA lcC) = wD at HKD0 HZ0 ⊢
            clear hwD
            have HLC : Hid (w7.heap.size < wC.heap.size) := lt_of_blk H7C.out
            have HYD : Hid ((wD.alloc (.cells #[.int .u8 0, .int .u8 2, .int .u8 47, .int .u8 97, .int .u8 1, .int .u8 0] 5)).heap[wC.heap.size]? = some (.cells #[.int .u8 0, .int .u8 2, .int .u8 47, .int .u8 97, .int .u8 1, .int .u8 0] 5 (0, 0))) := by show _ = _; rw [← HZ0.out]; exact heap_alloc_new _ _
            have HKD : Hid (KT W (wD.alloc (.cells #[.int .u8 0, .int .u8 2, .int .u8 47, .int .u8 97, .int .u8 1, .int .u8 0] 5)) w6.heap.size w7.heap.size stA pA kA laA laC LA lcA lcC lA) := HKD0.out.below ((Below.refl _ _).alloc (Nat.le_refl _) _)
            refine Calls.mono (decode_any (some ⟨wC.heap.size, 0, none⟩) 6 [0, 2, 47, 97, 1, 0] _ (HG.out.below HKD.out.low) (bys_six HYD.out) (by intro z hz; simp at hz; omega) (by simp) (by simp) (by unfold maxLen; omega)) ?_
            rintro e wE ⟨stX, pX, kX, laX, lcX, lX, codeX, rfl, hsX, hrX, hbX⟩
            obtain ⟨rfl, rfl⟩ := dec_a hrX
            obtain ⟨LX, hLX⟩ : ∃ L, lX.length = L := ⟨_, rfl⟩
            rw [hLX]
            have HKE : Hid (KT W (wE.alloc (.cells (shA stX ⟨#[47, 97]⟩ kX laX LX lcX) 25)) w6.heap.size w7.heap.size stA pA kA laA laC LA lcA lcC lA) := (HKD.out.below hbX).below ((Below.refl _ _).alloc (Nat.le_refl _) _)
            have HYE : Hid ((wE.alloc (.cells (shA stX ⟨#[47, 97]⟩ kX laX LX lcX) 25)).heap[wC.heap.size]? = some (.cells #[.int .u8 0, .int .u8 2, .int .u8 47, .int .u8 97, .int .u8 1, .int .u8 0] 5 (0, 0))) := new_old (kept_block hbX HYD.out) _
            have HXE : Hid ((wE.alloc (.cells (shA stX ⟨#[47, 97]⟩ kX laX LX lcX) 25)).heap[wE.heap.size]? = some (.cells (shA stX ⟨#[47, 97]⟩ kX laX LX lcX) 25 (0, 0))) := heap_alloc_new _ _
            have HLE : Hid (wC.heap.size < wE.heap.size) := lt_of_blk (kept_block hbX HYD.out)
            clear hLX hrX hbX hsX
            have hy3 : (wE.alloc (.cells (shA stX ⟨#[47, 97]⟩ kX laX LX lcX) 25)).cell? ⟨wC.heap.size, 3, none⟩ = some (.int .u8 97) := by simp [World.cell?, HYE.out]
            have hyf : (wE.alloc (.cells (shA stX ⟨#[47, 97]⟩ kX laX LX lcX) 25)).frozen? ⟨wC.heap.size, 3, none⟩ = false := by simp [World.frozen?, HYE.out]
            go_wp2_with fail
            clear hy3 hyf
            have HKF : Hid (KT W ((wE.alloc (.cells (shA stX ⟨#[47, 97]⟩ kX laX LX lcX) 25)).setCell ⟨wC.heap.size, 3, none⟩ (.int .u8 98)) w6.heap.size w7.heap.size stA pA kA laA laC LA lcA lcC lA) := HKE.out.set (fun o q h => six_no HYE.out o q h) (by have := HLC.out; have := HS7.out; omega) (by have := HLC.out; omega) (by have := HLC.out; have := HW7.out; omega)
            have HYF : Hid (((wE.alloc (.cells (shA stX ⟨#[47, 97]⟩ kX laX LX lcX) 25)).setCell ⟨wC.heap.size, 3, none⟩ (.int .u8 98)).heap[wC.heap.size]? = some (.cells #[.int .u8 0, .int .u8 2, .int .u8 47, .int .u8 98, .int .u8 1, .int .u8 0] 5 (0, 0))) := same_blk (i := 3) (v := .int .u8 98) (cs' := #[.int .u8 0, .int .u8 2, .int .u8 47, .int .u8 98, .int .u8 1, .int .u8 0]) HYE.out rfl
            have HXF : Hid (((wE.alloc (.cells (shA stX ⟨#[47, 97]⟩ kX laX LX lcX) 25)).setCell ⟨wC.heap.size, 3, none⟩ (.int .u8 98)).heap[wE.heap.size]? = some (.cells (shA stX ⟨#[47, 97]⟩ kX laX LX lcX) 25 (0, 0))) := other_blk HXE.out (by have := HLE.out; omega)
            refine Calls.mono (decode_any (some ⟨wC.heap.size, 0, none⟩) 6 [0, 2, 47, 98, 1, 0] _ (HG.out.below HKF.out.low) (bys_six HYF.out) (by intro z hz; simp at hz; omega) (by simp) (by simp) (by unfold maxLen; omega)) ?_
            rintro e wG ⟨stZ, pZ, kZ, laZ, lcZ, lZ, codeZ, rfl, hsZ, hrZ, hbZ⟩
            obtain ⟨rfl, rfl⟩ := dec_b hrZ
            obtain ⟨LZ, hLZ⟩ : ∃ L, lZ.length = L := ⟨_, rfl⟩
            rw [hLZ]
            have HKG : Hid (KT W (wG.alloc (.cells (shA stZ ⟨#[47, 98]⟩ kZ laZ LZ lcZ) 25)) w6.heap.size w7.heap.size stA pA kA laA laC LA lcA lcC lA) := (HKF.out.below hbZ).below ((Below.refl _ _).alloc (Nat.le_refl _) _)
            have HXG : Hid ((wG.alloc (.cells (shA stZ ⟨#[47, 98]⟩ kZ laZ LZ lcZ) 25)).heap[wE.heap.size]? = some (.cells (shA stX ⟨#[47, 97]⟩ kX laX LX lcX) 25 (0, 0))) := new_old (kept_block hbZ HXF.out) _
            have HZG : Hid ((wG.alloc (.cells (shA stZ ⟨#[47, 98]⟩ kZ laZ LZ lcZ) 25)).heap[wG.heap.size]? = some (.cells (shA stZ ⟨#[47, 98]⟩ kZ laZ LZ lcZ) 25 (0, 0))) := heap_alloc_new _ _
            clear hLZ hrZ hbZ hsZ
            go_wp2_with fail
            refine (num_any _ _).mono ?_
            rintro e wH ⟨rfl, rfl⟩
            obtain ⟨a0, a1, a2, a3⟩ := cells_4 HKG.out.x6
            obtain ⟨b0, b1, b2, b3⟩ := cells_4 HKG.out.x7
            go_wp2_with fail
            clear a0 a1 a2 a3 b0 b1 b2 b3
            have HLMA : Hid (LA ≤ maxLen) := by show _ ≤ _; rw [← HLA.out]; exact decRes_len HRA.out
            refine (alike_same stA pA kA laA laC LA lcA lcC lA _ HLA.out HKG.out.s6 HKG.out.s7 HLMA.out).mono ?_
            rintro e wI ⟨rfl, hbI⟩
            have HKI : Hid (KT W wI w6.heap.size w7.heap.size stA pA kA laA laC LA lcA lcC lA) := HKG.out.below hbI
            obtain ⟨a0, a1, a2, a3⟩ := cells_4 (kept_block hbI HXG.out)
            obtain ⟨b0, b1, b2, b3⟩ := cells_4 (kept_block hbI HZG.out)
            clear hbI
            go_wp2_with fail
            go_ret
            exact ⟨rfl, HKI.out.low⟩
      · have HWs : Hid (Below W.heap.size W W) := Below.refl _ _
        go_enter Tryd.func3, Tryd.ntmps3
        have HLX : Hid (xs.length ≤ 10000) → True := fun _ => trivial
        clear HLX
        have hsz0 := HWs.out.size
        go_wp2_with (first
          | (at_builtin; refine wpList_appD rfl _ _ rfl W.heap.size v4 xs rfl (World.ownsRow.alloc HO4.out _) (some ⟨w4.heap.size, 0, none⟩) 1 1 [94] rfl rfl (bys_one (heap_alloc_new _ _)) (fun h => by cases h) (by have := HL.out; simp; omega) (by simp; omega) ?_
             intro v5 w5 ho5 hg5 hat5
             have HO5 : Hid (w5.ownsRow W.heap.size 5 1 v5 (xs ++ [94]).length (bv (xs ++ [94]))) := ho5
             have HW5 : Hid (Below W.heap.size W w5) := (HW4.out.alloc HW4.out.size _).trans ((Below.refl _ _).grown hg5 (by have := HW4.out.size; simp; omega) (fun j hj => Nat.le_trans HWs.out.size (HO4.out.lt j hj).1))
             clear ho5 hg5 hat5
             obtain ⟨gg, cc, hv5, hnc5⟩ := owns_form HO5.out
             obtain ⟨g, rfl⟩ : ∃ g, gg = some ⟨g, 0, none⟩ := by
               rcases HO5.out.2 with ⟨h0, h1⟩ | ⟨g', cap', cur, hv, _⟩
               · exact absurd h1 (by simp)
               · rw [hv5] at hv; cases hv; exact ⟨g', rfl⟩
             subst hv5
             have HO5' : Hid (w5.ownsRow W.heap.size 5 1 (.slice (some ⟨g, 0, none⟩) (xs.length + 1) cc) (xs.length + 1) (bv (xs ++ [94]))) := by have := HO5.out; rw [List.length_append] at this; exact this
             have hcc : xs.length + 1 ≤ cc := owns_cap HO5'.out
             have hcI : (xs.length : Int) ≤ (cc : Int) := by omega
             clear hnc5)
          | (at_builtin; refine wpList_appD rfl _ _ rfl W.heap.size (.slice none 0 0) [] rfl (World.ownsRow_nil _ _ _ _) a xs.length c0 xs rfl rfl (HX.out.below HWs.out) HN.out (by have := HL.out; simp; omega) (Nat.le_refl _) ?_
             intro v4 w4 ho4 hg4 hat4
             have HO4 : Hid (w4.ownsRow W.heap.size 5 1 v4 xs.length (bv xs)) := ho4
             have HW4 : Hid (Below W.heap.size W w4) := HWs.out.trans ((Below.refl _ _).grown hg4 HWs.out.size (fun j hj => by cases hj))
             have hs34 : W.heap.size ≤ w4.heap.size := hg4.size
             clear ho4 hg4 hat4)
          | fail)
        have HRP : Hid (Bys w5 (some ⟨g, 0, none⟩) xs ∧ cc ≤ maxLen ∧ W.heap.size ≤ g ∧ w5.cell? ⟨g, xs.length, none⟩ = some (.int .u8 94)) := row_pre HO5'.out
        refine (decode_any (some ⟨g, 0, none⟩) cc xs w5 (HG.out.below HW5.out) HRP.out.1 HB.out (by have := HL.out; omega) (by omega) HRP.out.2.1).mono ?_
        rintro e w6 ⟨st5, p5, k5, la5, lc5, l5, code5, rfl, hs6, hr6, hb6⟩
        obtain ⟨L5, hL5⟩ : ∃ L, l5.length = L := ⟨_, rfl⟩
        rw [hL5]
        have HLL5 : Hid (l5.length = L5) := hL5
        have HR5 : Hid (DecRes xs code5 st5 p5 k5 l5) := hr6
        have HX6 : Hid (BX (w6.alloc (.cells (shA st5 p5 k5 la5 L5 lc5) 25)) w6.heap.size st5 p5 k5 la5 L5 lc5 l5) := ⟨heap_alloc_new _ _, hs6.below ((Below.refl _ _).alloc (Nat.le_refl _) _)⟩
        have HB6 : Hid (Below w5.heap.size w5 (w6.alloc (.cells (shA st5 p5 k5 la5 L5 lc5) 25))) := trans2 hb6 ((Below.refl _ _).alloc (Nat.le_refl _) _)
        have hz6 : w5.heap.size ≤ w6.heap.size := hb6.size
        clear hL5 hs6 hr6 hb6
        go_wp2_with fail
        refine (refDecode_any a c0 xs _ (HX.out.below (trans2 HW5.out HB6.out)) HB.out (by have := HL.out; omega) HC.out.1 HC.out.2).mono ?_
        rintro e w7 ⟨st7, p7, k7, la7, lc7, l7, code7, rfl, hs7, hr7, hb7⟩
        obtain ⟨rfl, rfl, rfl, rfl, rfl⟩ := HR5.out.one hr7
        rw [HLL5.out]
        have HX6' : Hid (BX (w7.alloc (.cells (shA st5 p5 k5 la7 L5 lc7) 25)) w6.heap.size st5 p5 k5 la5 L5 lc5 l5) := (HX6.out.below hb7).below ((Below.refl _ _).alloc (Nat.le_refl _) _)
        have HX7 : Hid (BX (w7.alloc (.cells (shA st5 p5 k5 la7 L5 lc7) 25)) w7.heap.size st5 p5 k5 la7 L5 lc7 l5) := ⟨heap_alloc_new _ _, hs7.below ((Below.refl _ _).alloc (Nat.le_refl _) _)⟩
        have HB7 : Hid (Below w5.heap.size w5 (w7.alloc (.cells (shA st5 p5 k5 la7 L5 lc7) 25))) := trans2 (trans2 HB6.out hb7) ((Below.refl _ _).alloc (Nat.le_refl _) _)
        have HLM5 : Hid (L5 ≤ maxLen) := by show _ ≤ _; rw [← HLL5.out]; exact decRes_len HR5.out
        have hz7 : w6.heap.size + 1 ≤ w7.heap.size := by have := hb7.size; simpa using this
        clear hs7 hr7 hb7
        go_wp2_with fail
        refine (num_any _ _).mono ?_
        rintro e w8 ⟨rfl, rfl⟩
        obtain ⟨a0, a1, a2, a3⟩ := cells_4 HX6'.out.box
        obtain ⟨b0, b1, b2, b3⟩ := cells_4 HX7.out.box
        go_wp2_with fail
        clear a0 a1 a2 a3 b0 b1 b2 b3
        refine (alike_same st5 p5 k5 la5 la7 L5 lc5 lc7 l5 _ HLL5.out HX6'.out.ss HX7.out.ss HLM5.out).mono ?_
        rintro e w8 ⟨rfl, hb8⟩
        have HB8 : Hid (Below w5.heap.size w5 w8) := trans2 HB7.out hb8
        have HX8 : Hid (BX w8 w6.heap.size st5 p5 k5 la5 L5 lc5 l5) := HX6'.out.below hb8
        have HX8' : Hid (BX w8 w7.heap.size st5 p5 k5 la7 L5 lc7 l5) := HX7.out.below hb8
        have hz8 : w7.heap.size + 1 ≤ w8.heap.size := by have := hb8.size; simpa using this
        clear hb8
        go_wp2_with fail
        refine (sameBytes_any (some ⟨g, 0, none⟩) a cc c0 xs xs w8 (HRP.out.1.below HB8.out) (HX.out.below (trans2 HW5.out HB8.out)) (by have := HL.out; unfold maxLen; omega)).mono ?_
        rintro e w9 ⟨rfl, m, rfl⟩
        rw [decide_eq_true (rfl : xs = xs)]
        have h94 : (w8.drewN m).cell? ⟨g, xs.length, none⟩ = some (.int .u8 94) := by show w8.cell? _ = _; exact cell_low HRP.out.2.2.2 HB8.out
        go_wp2_with fail
        clear h94
        have HGL : Hid (g < w5.heap.size) := (World.ownsRow.lt HO5'.out g rfl).2
        have HS6 : Hid (w5.heap.size ≤ w6.heap.size) := hz6
        have HS7 : Hid (w6.heap.size + 1 ≤ w7.heap.size) := hz7
        have HS8 : Hid (w7.heap.size + 1 ≤ w8.heap.size) := hz8
        have HG6 : Hid (g < w6.heap.size) := by have := HGL.out; show _ < _; omega
        have HG7 : Hid (g < w7.heap.size) := by have := HGL.out; show _ < _; omega
        have HG8 : Hid (g < w8.heap.size) := by have := HGL.out; show _ < _; omega
        have H68 : Hid (w6.heap.size < w8.heap.size) := by show _ < _; omega
        have H78 : Hid (w7.heap.size < w8.heap.size) := by show _ < _; omega
        have HW8 : Hid (W.heap.size ≤ w8.heap.size) := (trans2 HW5.out HB8.out).size
        clear hz6 hz7 hz8
        go_loopw [15, 16] (fun v i wr => ∃ q : Nat, i = .int .i64 q ∧ q ≤ xs.length ∧ Hid (wr.ownsRow W.heap.size 5 1 (.slice (some ⟨g, 0, none⟩) (xs.length + 1) cc) (xs.length + 1) (bv (upB xs q ++ [94]))) ∧ Hid (wr.ownsRow w8.heap.size 5 1 v ((xs.take q).map tb).length (bv ((xs.take q).map tb))) ∧ Hid (Below W.heap.size W wr) ∧ Hid (wr.heap[w6.heap.size]? = some (.cells (shA st5 p5 k5 la5 L5 lc5) 25 (0, 0))) ∧ Hid (wr.heap[w7.heap.size]? = some (.cells (shA st5 p5 k5 la7 L5 lc7) 25 (0, 0))) ∧ Hid (w8.heap.size ≤ wr.heap.size)) (fun _ i _ => xs.length - (intOf i).toNat)
        case atStart => exact ⟨0, rfl, Nat.zero_le _, by rw [upB_zero]; exact row_low (ownsLowF HO5'.out HWs.out.size) (below_drewN HB8.out _), World.ownsRow_nil _ _ _ _, trans2 HW5.out (below_drewN HB8.out _), HX8.out.box, HX8'.out.box, Nat.le_refl _⟩
        case round =>
          obtain ⟨q, rfl, hq, HOr, HNr, HWr, Hb6, Hb7, HZr⟩ := hrel
          by_cases hlt : q < xs.length
          · obtain ⟨x, hx⟩ : ∃ x, xs[q]? = some x := ⟨xs[q], List.getElem?_eq_getElem hlt⟩
            have HXq : Hid (xs[q]? = some x) := hx
            have hxb := HB.out x (List.mem_of_getElem? hx)
            have hcq : wr.cell? ⟨g, q, none⟩ = some (.int .u8 x) := by rw [HOr.out.cellAt q (by omega)]; unfold bv; rw [List.getElem?_map, upB_at hx]; rfl
            have hqc : (q : Int) < (xs.length : Int) + 1 := by omega
            clear hx
            by_cases hA : 97 ≤ x ∧ x < 122
            · obtain ⟨hA1, hA2⟩ := hA
              have HT : Hid (tb x = x + 1) := by show _ = _; unfold tb; rw [if_pos ⟨hA1, hA2⟩]
              have hwp : IntKind.u8.wrap (x + 1) = x + 1 := by first | (rw [IntKind.wrap_u8]; omega) | (simp [IntKind.wrap]; omega) | (simp [IntKind.wrap, IntKind.bits, IntKind.signed]; omega)
              have hfz : wr.frozen? ⟨g, q, none⟩ = false := HOr.out.frozenAt q
              have hst := HOr.out.stored q (.int .u8 (x + 1))
              have HOs : Hid ((wr.setCell ⟨g, q, none⟩ (.int .u8 (x + 1))).ownsRow W.heap.size 5 1 (.slice (some ⟨g, 0, none⟩) (xs.length + 1) cc) (xs.length + 1) (bv (upB xs (q + 1) ++ [94]))) := by
                have h := hst.1
                rw [show (bv (upB xs q ++ [94])).set q (.int .u8 (x + 1)) = bv ((upB xs q ++ [94]).set q (tb x)) by rw [HT.out]; unfold bv; rw [List.map_set], upB_step HXq.out] at h
                exact h
              have HNs : Hid ((wr.setCell ⟨g, q, none⟩ (.int .u8 (x + 1))).ownsRow w8.heap.size 5 1 u15 ((xs.take q).map tb).length (bv ((xs.take q).map tb))) := HNr.out.kept hst.2 (by
                cases hu : u15.ownBlock with
                | none => exact .inl rfl
                | some k => exact .inr (fun h => by cases h; have := (HNr.out.lt _ hu).1; have := HG8.out; omega))
              have HWs : Hid (Below W.heap.size W (wr.setCell ⟨g, q, none⟩ (.int .u8 (x + 1)))) := HWr.out.grown hst.2 HWr.out.size (fun j hj => by cases hj; exact (World.ownsRow.lt HOr.out g rfl).1)
              have Hs6 : Hid ((wr.setCell ⟨g, q, none⟩ (.int .u8 (x + 1))).heap[w6.heap.size]? = some (.cells (shA st5 p5 k5 la5 L5 lc5) 25 (0, 0))) := (Below.heap_setCell wr _ _ _ (by have := HG6.out; show _ ≠ g; omega)).trans Hb6.out
              have Hs7 : Hid ((wr.setCell ⟨g, q, none⟩ (.int .u8 (x + 1))).heap[w7.heap.size]? = some (.cells (shA st5 p5 k5 la7 L5 lc7) 25 (0, 0))) := (Below.heap_setCell wr _ _ _ (by have := HG7.out; show _ ≠ g; omega)).trans Hb7.out
              have HZs : Hid (w8.heap.size ≤ (wr.setCell ⟨g, q, none⟩ (.int .u8 (x + 1))).heap.size) := by have := HZr.out; show _ ≤ _; simpa using this
              have hcs : (wr.setCell ⟨g, q, none⟩ (.int .u8 (x + 1))).cell? ⟨g, q, none⟩ = some (.int .u8 (x + 1)) := by
                rw [hst.1.cellAt q (by omega)]
                rw [List.getElem?_set_self (by rw [bv_len, List.length_append, upB_len]; omega)]
              clear hst
              go_wp2_with (first
                | (at_builtin; refine wpList_appD rfl _ _ rfl w8.heap.size u15 ((xs.take q).map tb) rfl (World.ownsRow.alloc HNs.out _) (some ⟨wr.heap.size, 0, none⟩) 1 1 [x + 1] rfl rfl (bys_one (heap_new' (by simp))) (fun h => by cases h) (by have := HL.out; simp; omega) (Nat.le_trans HZs.out (by simp)) ?_
                   intro v2 wn hon hgn hatn
                   have HON : Hid (wn.ownsRow w8.heap.size 5 1 v2 ((xs.take (q + 1)).map tb).length (bv ((xs.take (q + 1)).map tb))) := by show World.ownsRow _ _ _ _ _ _ _; rw [tk_step HXq.out, HT.out]; exact hon
                   have HBn : Hid (Below w8.heap.size (wr.setCell ⟨g, q, none⟩ (.int .u8 (x + 1))) wn) := ((Below.refl w8.heap.size (wr.setCell ⟨g, q, none⟩ (.int .u8 (x + 1)))).alloc HZs.out _).trans ((Below.refl _ _).grown hgn (Nat.le_trans HZs.out (by simp)) (fun j hj => (HNs.out.lt j hj).1))
                   clear hon hgn hatn)
                | fail)
              go_roundw
              case rel => exact ⟨q + 1, by go_num, by omega, row_blk HOs.out (HBn.out.block g HG8.out), HON, HWs.out.trans (low_le HBn.out HW8.out), (HBn.out.block _ H68.out).trans Hs6.out, (HBn.out.block _ H78.out).trans Hs7.out, Nat.le_trans HZs.out HBn.out.size⟩
              case measure => simp [intOf]; omega
            · have HT : Hid (tb x = x) := by show _ = _; unfold tb; rw [if_neg hA]
              have HOs : Hid (wr.ownsRow W.heap.size 5 1 (.slice (some ⟨g, 0, none⟩) (xs.length + 1) cc) (xs.length + 1) (bv (upB xs (q + 1) ++ [94]))) := by have := HOr.out; rw [upB_stay HXq.out HT.out] at this; exact this
              have HNs := HNr
              have HWs := HWr
              have Hs6 := Hb6
              have Hs7 := Hb7
              have HZs := HZr
              by_cases hA1 : 97 ≤ x
              · have hA2 : ¬ x < 122 := fun h => hA ⟨hA1, h⟩
                clear hA
                go_wp2_with (first
                  | (at_builtin; refine wpList_appD rfl _ _ rfl w8.heap.size u15 ((xs.take q).map tb) rfl (World.ownsRow.alloc HNs.out _) (some ⟨wr.heap.size, 0, none⟩) 1 1 [x] rfl rfl (bys_one (heap_alloc_new _ _)) (fun h => by cases h) (by have := HL.out; simp; omega) (Nat.le_trans HZs.out (by simp)) ?_
                     intro v2 wn hon hgn hatn
                     have HON : Hid (wn.ownsRow w8.heap.size 5 1 v2 ((xs.take (q + 1)).map tb).length (bv ((xs.take (q + 1)).map tb))) := by show World.ownsRow _ _ _ _ _ _ _; rw [tk_step HXq.out, HT.out]; exact hon
                     have HBn : Hid (Below w8.heap.size wr wn) := ((Below.refl w8.heap.size wr).alloc HZs.out _).trans ((Below.refl _ _).grown hgn (Nat.le_trans HZs.out (by simp)) (fun j hj => (HNs.out.lt j hj).1))
                     clear hon hgn hatn)
                  | fail)
                go_roundw
                case rel => exact ⟨q + 1, by go_num, by omega, row_blk HOs.out (HBn.out.block g HG8.out), HON, HWs.out.trans (low_le HBn.out HW8.out), (HBn.out.block _ H68.out).trans Hs6.out, (HBn.out.block _ H78.out).trans Hs7.out, Nat.le_trans HZs.out HBn.out.size⟩
                case measure => simp [intOf]; omega
              · clear hA
                go_wp2_with (first
                  | (at_builtin; refine wpList_appD rfl _ _ rfl w8.heap.size u15 ((xs.take q).map tb) rfl (World.ownsRow.alloc HNs.out _) (some ⟨wr.heap.size, 0, none⟩) 1 1 [x] rfl rfl (bys_one (heap_alloc_new _ _)) (fun h => by cases h) (by have := HL.out; simp; omega) (Nat.le_trans HZs.out (by simp)) ?_
                     intro v2 wn hon hgn hatn
                     have HON : Hid (wn.ownsRow w8.heap.size 5 1 v2 ((xs.take (q + 1)).map tb).length (bv ((xs.take (q + 1)).map tb))) := by show World.ownsRow _ _ _ _ _ _ _; rw [tk_step HXq.out, HT.out]; exact hon
                     have HBn : Hid (Below w8.heap.size wr wn) := ((Below.refl w8.heap.size wr).alloc HZs.out _).trans ((Below.refl _ _).grown hgn (Nat.le_trans HZs.out (by simp)) (fun j hj => (HNs.out.lt j hj).1))
                     clear hon hgn hatn)
                  | fail)
                go_roundw
                case rel => exact ⟨q + 1, by go_num, by omega, row_blk HOs.out (HBn.out.block g HG8.out), HON, HWs.out.trans (low_le HBn.out HW8.out), (HBn.out.block _ H68.out).trans Hs6.out, (HBn.out.block _ H78.out).trans Hs7.out, Nat.le_trans HZs.out HBn.out.size⟩
                case measure => simp [intOf]; omega
          · have hqe : q = xs.length := by omega
            subst hqe
            have HOe : Hid (wr.ownsRow W.heap.size 5 1 (.slice (some ⟨g, 0, none⟩) (xs.length + 1) cc) (xs.length + 1) (bv (xs.map tb ++ [94]))) := by have := HOr.out; rw [upB_all] at this; exact this
            have HNe : Hid (wr.ownsRow w8.heap.size 5 1 u15 xs.length (bv (xs.map tb))) := by have := HNr.out; rw [List.take_length, List.length_map] at this; exact this
            clear HOr HNr
            have HRe : Hid (Bys wr (some ⟨g, 0, none⟩) (xs.map tb) ∧ cc ≤ maxLen) := row_pre2 (List.length_map _) HOe.out
            obtain ⟨na, nc, hun, hbn, hnn, hn0, hn1, hn2⟩ := bys_of_owns HNe.out
            rw [List.length_map] at hun hn1
            subst hun
            have HBN : Hid (Bys wr na (xs.map tb) ∧ xs.length ≤ nc ∧ nc ≤ maxLen) := ⟨hbn, hn1, hn2⟩
            clear hbn hn0 hn1 hn2
            have HD2 : Hid (Calls Tryd.prog 4 #[.slice (some ⟨g, 0, none⟩) xs.length cc] wr fun e w' => DecEnd (xs.map tb) wr w' e) := by
              have := decode_any (some ⟨g, 0, none⟩) cc (xs.map tb) wr (HG.out.below HWr.out) HRe.out.1 (byt_tb HB.out) (by rw [List.length_map]; have := HL.out; omega) (by rw [List.length_map]; omega) HRe.out.2
              rw [List.length_map] at this
              exact this
            go_wp2_with fail
            refine Calls.mono HD2.out ?_
            rintro e wA ⟨stA, pA, kA, laA, lcA, lA, codeA, rfl, hsA, hrA, hbA⟩
            obtain ⟨LA, hLA⟩ : ∃ L, lA.length = L := ⟨_, rfl⟩
            rw [hLA]
            have HLA : Hid (lA.length = LA) := hLA
            have HRA : Hid (DecRes (xs.map tb) codeA stA pA kA lA) := hrA
            have HBA : Hid (Below wr.heap.size wr wA) := hbA
            have HSA : Hid (Ss wA laA lA) := hsA
            have H6A : Hid (wA.heap[w6.heap.size]? = some (.cells (shA st5 p5 k5 la5 L5 lc5) 25 (0, 0))) := kept_block hbA Hb6.out
            have H7A : Hid (wA.heap[w7.heap.size]? = some (.cells (shA st5 p5 k5 la7 L5 lc7) 25 (0, 0))) := kept_block hbA Hb7.out
            clear hLA hrA hbA hsA
            obtain ⟨s0, s1, s2, s3⟩ := cells_4 H6A.out
            have f4 := free_4 H6A.out
            go_wp2_with fail
            clear s0 s1 s2 s3 f4
            have HW6 : Hid (W.heap.size ≤ w6.heap.size) := by have := HW5.out.size; have := HS6.out; show _ ≤ _; omega
            have HBB : Hid (Below W.heap.size W (put_4 wA w6.heap.size (.int .i64 stA) (.string pA) (.int .i64 kA) (.slice laA LA lcA))) := fillB_4 (trans2 HWr.out HBA.out) HW6.out
            have H6B : Hid ((put_4 wA w6.heap.size (.int .i64 stA) (.string pA) (.int .i64 kA) (.slice laA LA lcA)).heap[w6.heap.size]? = some (.cells (shA stA pA kA laA LA lcA) 25 (0, 0))) := fill_4 H6A.out
            have H7B : Hid ((put_4 wA w6.heap.size (.int .i64 stA) (.string pA) (.int .i64 kA) (.slice laA LA lcA)).heap[w7.heap.size]? = some (.cells (shA st5 p5 k5 la7 L5 lc7) 25 (0, 0))) := fillO_4 H7A.out (by have := HS7.out; omega)
            have HSB : Hid (Ss (put_4 wA w6.heap.size (.int .i64 stA) (.string pA) (.int .i64 kA) (.slice laA LA lcA)) laA lA) := ss_box HSA.out H6A.out (fun j hj => put4_other _ _ _ _ _ _ j hj) (Nat.le_of_eq (put4_size _ _ _ _ _ _).symm)
            have HND : Hid (Bys (put_4 wA w6.heap.size (.int .i64 stA) (.string pA) (.int .i64 kA) (.slice laA LA lcA)) na (xs.map tb)) := bys_kept (HBN.out.1.below HBA.out) (Nat.le_of_eq (put4_size _ _ _ _ _ _).symm) (fun b o hb => put4_other _ _ _ _ _ _ b (own_ne HNe.out H68.out b o hb))
            have HRD2 : Hid (Calls Tryd.prog 5 #[.slice na xs.length nc] (put_4 wA w6.heap.size (.int .i64 stA) (.string pA) (.int .i64 kA) (.slice laA LA lcA)) fun e w' => DecEnd (xs.map tb) (put_4 wA w6.heap.size (.int .i64 stA) (.string pA) (.int .i64 kA) (.slice laA LA lcA)) w' e) := by
              have := refDecode_any na nc (xs.map tb) _ HND.out (byt_tb HB.out) (by rw [List.length_map]; have := HL.out; omega) (by rw [List.length_map]; exact HBN.out.2.1) HBN.out.2.2
              rw [List.length_map] at this
              exact this
            refine Calls.mono HRD2.out ?_
            rintro e wC ⟨stC, pC, kC, laC, lcC, lC, codeC, rfl, hsC, hrC, hbC⟩
            obtain ⟨rfl, rfl, rfl, rfl, rfl⟩ := HRA.out.one hrC
            rw [HLA.out]
            have HBC : Hid (Below W.heap.size W wC) := trans2 HBB.out hbC
            have H6C : Hid (wC.heap[w6.heap.size]? = some (.cells (shA stA pA kA laA LA lcA) 25 (0, 0))) := kept_block hbC H6B.out
            have H7C : Hid (wC.heap[w7.heap.size]? = some (.cells (shA st5 p5 k5 la7 L5 lc7) 25 (0, 0))) := kept_block hbC H7B.out
            have HSC : Hid (Ss wC laA lA) := HSB.out.below hbC
            have HSD : Hid (Ss wC laC lA) := hsC
            clear hbC hsC hrC
            obtain ⟨s0, s1, s2, s3⟩ := cells_4 H7C.out
            have f4 := free_4 H7C.out
            go_wp2_with fail
            clear s0 s1 s2 s3 f4
            have HW7 : Hid (W.heap.size ≤ w7.heap.size) := by have := HW6.out; have := HS7.out; show _ ≤ _; omega
            have HKD0 : Hid (KT W (put_4 wC w7.heap.size (.int .i64 stA) (.string pA) (.int .i64 kA) (.slice laC LA lcC)) w6.heap.size w7.heap.size stA pA kA laA laC LA lcA lcC lA) := ⟨fillB_4 HBC.out HW7.out, fillO_4 H6C.out (by have := HS7.out; omega), fill_4 H7C.out, ss_box HSC.out H7C.out (fun j hj => put4_other _ _ _ _ _ _ j hj) (Nat.le_of_eq (put4_size _ _ _ _ _ _).symm), ss_box HSD.out H7C.out (fun j hj => put4_other _ _ _ _ _ _ j hj) (Nat.le_of_eq (put4_size _ _ _ _ _ _).symm)⟩
            have HZ0 : Hid ((put_4 wC w7.heap.size (.int .i64 stA) (.string pA) (.int .i64 kA) (.slice laC LA lcC)).heap.size = wC.heap.size) := put4_size _ _ _ _ _ _
            unfold put_4 at HKD0 HZ0
            generalize hwD : (((wC.setCell ⟨w7.heap.size, 0, none⟩ (.int .i64 stA)).setCell ⟨w7.heap.size, 1, none⟩ (.string pA)).setCell ⟨w7.heap.size, 2, none⟩ (.int .i64 kA)).setCell ⟨w7.heap.size, 3, none⟩ (.slice laC LA lcC) = wD at HKD0 HZ0 ⊢
            clear hwD
            have HLC : Hid (w7.heap.size < wC.heap.size) := lt_of_blk H7C.out
            have HYD : Hid ((wD.alloc (.cells #[.int .u8 0, .int .u8 2, .int .u8 47, .int .u8 97, .int .u8 1, .int .u8 0] 5)).heap[wC.heap.size]? = some (.cells #[.int .u8 0, .int .u8 2, .int .u8 47, .int .u8 97, .int .u8 1, .int .u8 0] 5 (0, 0))) := by show _ = _; rw [← HZ0.out]; exact heap_alloc_new _ _
            have HKD : Hid (KT W (wD.alloc (.cells #[.int .u8 0, .int .u8 2, .int .u8 47, .int .u8 97, .int .u8 1, .int .u8 0] 5)) w6.heap.size w7.heap.size stA pA kA laA laC LA lcA lcC lA) := HKD0.out.below ((Below.refl _ _).alloc (Nat.le_refl _) _)
            refine Calls.mono (decode_any (some ⟨wC.heap.size, 0, none⟩) 6 [0, 2, 47, 97, 1, 0] _ (HG.out.below HKD.out.low) (bys_six HYD.out) (by intro z hz; simp at hz; omega) (by simp) (by simp) (by unfold maxLen; omega)) ?_
            rintro e wE ⟨stX, pX, kX, laX, lcX, lX, codeX, rfl, hsX, hrX, hbX⟩
            obtain ⟨rfl, rfl⟩ := dec_a hrX
            obtain ⟨LX, hLX⟩ : ∃ L, lX.length = L := ⟨_, rfl⟩
            rw [hLX]
            have HKE : Hid (KT W (wE.alloc (.cells (shA stX ⟨#[47, 97]⟩ kX laX LX lcX) 25)) w6.heap.size w7.heap.size stA pA kA laA laC LA lcA lcC lA) := (HKD.out.below hbX).below ((Below.refl _ _).alloc (Nat.le_refl _) _)
            have HYE : Hid ((wE.alloc (.cells (shA stX ⟨#[47, 97]⟩ kX laX LX lcX) 25)).heap[wC.heap.size]? = some (.cells #[.int .u8 0, .int .u8 2, .int .u8 47, .int .u8 97, .int .u8 1, .int .u8 0] 5 (0, 0))) := new_old (kept_block hbX HYD.out) _
            have HXE : Hid ((wE.alloc (.cells (shA stX ⟨#[47, 97]⟩ kX laX LX lcX) 25)).heap[wE.heap.size]? = some (.cells (shA stX ⟨#[47, 97]⟩ kX laX LX lcX) 25 (0, 0))) := heap_alloc_new _ _
            have HLE : Hid (wC.heap.size < wE.heap.size) := lt_of_blk (kept_block hbX HYD.out)
            clear hLX hrX hbX hsX
            have hy3 : (wE.alloc (.cells (shA stX ⟨#[47, 97]⟩ kX laX LX lcX) 25)).cell? ⟨wC.heap.size, 3, none⟩ = some (.int .u8 97) := by simp [World.cell?, HYE.out]
            have hyf : (wE.alloc (.cells (shA stX ⟨#[47, 97]⟩ kX laX LX lcX) 25)).frozen? ⟨wC.heap.size, 3, none⟩ = false := by simp [World.frozen?, HYE.out]
            go_wp2_with fail
            clear hy3 hyf
            have HKF : Hid (KT W ((wE.alloc (.cells (shA stX ⟨#[47, 97]⟩ kX laX LX lcX) 25)).setCell ⟨wC.heap.size, 3, none⟩ (.int .u8 98)) w6.heap.size w7.heap.size stA pA kA laA laC LA lcA lcC lA) := HKE.out.set (fun o q h => six_no HYE.out o q h) (by have := HLC.out; have := HS7.out; omega) (by have := HLC.out; omega) (by have := HLC.out; have := HW7.out; omega)
            have HYF : Hid (((wE.alloc (.cells (shA stX ⟨#[47, 97]⟩ kX laX LX lcX) 25)).setCell ⟨wC.heap.size, 3, none⟩ (.int .u8 98)).heap[wC.heap.size]? = some (.cells #[.int .u8 0, .int .u8 2, .int .u8 47, .int .u8 98, .int .u8 1, .int .u8 0] 5 (0, 0))) := same_blk (i := 3) (v := .int .u8 98) (cs' := #[.int .u8 0, .int .u8 2, .int .u8 47, .int .u8 98, .int .u8 1, .int .u8 0]) HYE.out rfl
            have HXF : Hid (((wE.alloc (.cells (shA stX ⟨#[47, 97]⟩ kX laX LX lcX) 25)).setCell ⟨wC.heap.size, 3, none⟩ (.int .u8 98)).heap[wE.heap.size]? = some (.cells (shA stX ⟨#[47, 97]⟩ kX laX LX lcX) 25 (0, 0))) := other_blk HXE.out (by have := HLE.out; omega)
            refine Calls.mono (decode_any (some ⟨wC.heap.size, 0, none⟩) 6 [0, 2, 47, 98, 1, 0] _ (HG.out.below HKF.out.low) (bys_six HYF.out) (by intro z hz; simp at hz; omega) (by simp) (by simp) (by unfold maxLen; omega)) ?_
            rintro e wG ⟨stZ, pZ, kZ, laZ, lcZ, lZ, codeZ, rfl, hsZ, hrZ, hbZ⟩
            obtain ⟨rfl, rfl⟩ := dec_b hrZ
            obtain ⟨LZ, hLZ⟩ : ∃ L, lZ.length = L := ⟨_, rfl⟩
            rw [hLZ]
            have HKG : Hid (KT W (wG.alloc (.cells (shA stZ ⟨#[47, 98]⟩ kZ laZ LZ lcZ) 25)) w6.heap.size w7.heap.size stA pA kA laA laC LA lcA lcC lA) := (HKF.out.below hbZ).below ((Below.refl _ _).alloc (Nat.le_refl _) _)
            have HXG : Hid ((wG.alloc (.cells (shA stZ ⟨#[47, 98]⟩ kZ laZ LZ lcZ) 25)).heap[wE.heap.size]? = some (.cells (shA stX ⟨#[47, 97]⟩ kX laX LX lcX) 25 (0, 0))) := new_old (kept_block hbZ HXF.out) _
            have HZG : Hid ((wG.alloc (.cells (shA stZ ⟨#[47, 98]⟩ kZ laZ LZ lcZ) 25)).heap[wG.heap.size]? = some (.cells (shA stZ ⟨#[47, 98]⟩ kZ laZ LZ lcZ) 25 (0, 0))) := heap_alloc_new _ _
            clear hLZ hrZ hbZ hsZ
            go_wp2_with fail
            refine (num_any _ _).mono ?_
            rintro e wH ⟨rfl, rfl⟩
            obtain ⟨a0, a1, a2, a3⟩ := cells_4 HKG.out.x6
            obtain ⟨b0, b1, b2, b3⟩ := cells_4 HKG.out.x7
            go_wp2_with fail
            clear a0 a1 a2 a3 b0 b1 b2 b3
            have HLMA : Hid (LA ≤ maxLen) := by show _ ≤ _; rw [← HLA.out]; exact decRes_len HRA.out
            refine (alike_same stA pA kA laA laC LA lcA lcC lA _ HLA.out HKG.out.s6 HKG.out.s7 HLMA.out).mono ?_
            rintro e wI ⟨rfl, hbI⟩
            have HKI : Hid (KT W wI w6.heap.size w7.heap.size stA pA kA laA laC LA lcA lcC lA) := HKG.out.below hbI
            obtain ⟨a0, a1, a2, a3⟩ := cells_4 (kept_block hbI HXG.out)
            obtain ⟨b0, b1, b2, b3⟩ := cells_4 (kept_block hbI HZG.out)
            clear hbI
            go_wp2_with fail
            go_ret
            exact ⟨rfl, HKI.out.low⟩
    · have HWs : Hid (Below W.heap.size W W) := Below.refl _ _
      go_enter Tryd.func3, Tryd.ntmps3
      have HLX : Hid (xs.length ≤ 10000) → True := fun _ => trivial
      clear HLX
      have hsz0 := HWs.out.size
      go_wp2_with (first
        | (at_builtin; refine wpList_appD rfl _ _ rfl W.heap.size v4 xs rfl (World.ownsRow.alloc HO4.out _) (some ⟨w4.heap.size, 0, none⟩) 1 1 [94] rfl rfl (bys_one (heap_alloc_new _ _)) (fun h => by cases h) (by have := HL.out; simp; omega) (by simp; omega) ?_
           intro v5 w5 ho5 hg5 hat5
           have HO5 : Hid (w5.ownsRow W.heap.size 5 1 v5 (xs ++ [94]).length (bv (xs ++ [94]))) := ho5
           have HW5 : Hid (Below W.heap.size W w5) := (HW4.out.alloc HW4.out.size _).trans ((Below.refl _ _).grown hg5 (by have := HW4.out.size; simp; omega) (fun j hj => Nat.le_trans HWs.out.size (HO4.out.lt j hj).1))
           clear ho5 hg5 hat5
           obtain ⟨gg, cc, hv5, hnc5⟩ := owns_form HO5.out
           obtain ⟨g, rfl⟩ : ∃ g, gg = some ⟨g, 0, none⟩ := by
             rcases HO5.out.2 with ⟨h0, h1⟩ | ⟨g', cap', cur, hv, _⟩
             · exact absurd h1 (by simp)
             · rw [hv5] at hv; cases hv; exact ⟨g', rfl⟩
           subst hv5
           have HO5' : Hid (w5.ownsRow W.heap.size 5 1 (.slice (some ⟨g, 0, none⟩) (xs.length + 1) cc) (xs.length + 1) (bv (xs ++ [94]))) := by have := HO5.out; rw [List.length_append] at this; exact this
           have hcc : xs.length + 1 ≤ cc := owns_cap HO5'.out
           have hcI : (xs.length : Int) ≤ (cc : Int) := by omega
           clear hnc5)
        | (at_builtin; refine wpList_appD rfl _ _ rfl W.heap.size (.slice none 0 0) [] rfl (World.ownsRow_nil _ _ _ _) a xs.length c0 xs rfl rfl (HX.out.below HWs.out) HN.out (by have := HL.out; simp; omega) (Nat.le_refl _) ?_
           intro v4 w4 ho4 hg4 hat4
           have HO4 : Hid (w4.ownsRow W.heap.size 5 1 v4 xs.length (bv xs)) := ho4
           have HW4 : Hid (Below W.heap.size W w4) := HWs.out.trans ((Below.refl _ _).grown hg4 HWs.out.size (fun j hj => by cases hj))
           have hs34 : W.heap.size ≤ w4.heap.size := hg4.size
           clear ho4 hg4 hat4)
        | fail)
      have HRP : Hid (Bys w5 (some ⟨g, 0, none⟩) xs ∧ cc ≤ maxLen ∧ W.heap.size ≤ g ∧ w5.cell? ⟨g, xs.length, none⟩ = some (.int .u8 94)) := row_pre HO5'.out
      refine (decode_any (some ⟨g, 0, none⟩) cc xs w5 (HG.out.below HW5.out) HRP.out.1 HB.out (by have := HL.out; omega) (by omega) HRP.out.2.1).mono ?_
      rintro e w6 ⟨st5, p5, k5, la5, lc5, l5, code5, rfl, hs6, hr6, hb6⟩
      obtain ⟨L5, hL5⟩ : ∃ L, l5.length = L := ⟨_, rfl⟩
      rw [hL5]
      have HLL5 : Hid (l5.length = L5) := hL5
      have HR5 : Hid (DecRes xs code5 st5 p5 k5 l5) := hr6
      have HX6 : Hid (BX (w6.alloc (.cells (shA st5 p5 k5 la5 L5 lc5) 25)) w6.heap.size st5 p5 k5 la5 L5 lc5 l5) := ⟨heap_alloc_new _ _, hs6.below ((Below.refl _ _).alloc (Nat.le_refl _) _)⟩
      have HB6 : Hid (Below w5.heap.size w5 (w6.alloc (.cells (shA st5 p5 k5 la5 L5 lc5) 25))) := trans2 hb6 ((Below.refl _ _).alloc (Nat.le_refl _) _)
      have hz6 : w5.heap.size ≤ w6.heap.size := hb6.size
      clear hL5 hs6 hr6 hb6
      go_wp2_with fail
      refine (refDecode_any a c0 xs _ (HX.out.below (trans2 HW5.out HB6.out)) HB.out (by have := HL.out; omega) HC.out.1 HC.out.2).mono ?_
      rintro e w7 ⟨st7, p7, k7, la7, lc7, l7, code7, rfl, hs7, hr7, hb7⟩
      obtain ⟨rfl, rfl, rfl, rfl, rfl⟩ := HR5.out.one hr7
      rw [HLL5.out]
      have HX6' : Hid (BX (w7.alloc (.cells (shA st5 p5 k5 la7 L5 lc7) 25)) w6.heap.size st5 p5 k5 la5 L5 lc5 l5) := (HX6.out.below hb7).below ((Below.refl _ _).alloc (Nat.le_refl _) _)
      have HX7 : Hid (BX (w7.alloc (.cells (shA st5 p5 k5 la7 L5 lc7) 25)) w7.heap.size st5 p5 k5 la7 L5 lc7 l5) := ⟨heap_alloc_new _ _, hs7.below ((Below.refl _ _).alloc (Nat.le_refl _) _)⟩
      have HB7 : Hid (Below w5.heap.size w5 (w7.alloc (.cells (shA st5 p5 k5 la7 L5 lc7) 25))) := trans2 (trans2 HB6.out hb7) ((Below.refl _ _).alloc (Nat.le_refl _) _)
      have HLM5 : Hid (L5 ≤ maxLen) := by show _ ≤ _; rw [← HLL5.out]; exact decRes_len HR5.out
      have hz7 : w6.heap.size + 1 ≤ w7.heap.size := by have := hb7.size; simpa using this
      clear hs7 hr7 hb7
      go_wp2_with fail
      refine (num_any _ _).mono ?_
      rintro e w8 ⟨rfl, rfl⟩
      obtain ⟨a0, a1, a2, a3⟩ := cells_4 HX6'.out.box
      obtain ⟨b0, b1, b2, b3⟩ := cells_4 HX7.out.box
      go_wp2_with fail
      clear a0 a1 a2 a3 b0 b1 b2 b3
      refine (alike_same st5 p5 k5 la5 la7 L5 lc5 lc7 l5 _ HLL5.out HX6'.out.ss HX7.out.ss HLM5.out).mono ?_
      rintro e w8 ⟨rfl, hb8⟩
      have HB8 : Hid (Below w5.heap.size w5 w8) := trans2 HB7.out hb8
      have HX8 : Hid (BX w8 w6.heap.size st5 p5 k5 la5 L5 lc5 l5) := HX6'.out.below hb8
      have HX8' : Hid (BX w8 w7.heap.size st5 p5 k5 la7 L5 lc7 l5) := HX7.out.below hb8
      have hz8 : w7.heap.size + 1 ≤ w8.heap.size := by have := hb8.size; simpa using this
      clear hb8
      go_wp2_with fail
      refine (sameBytes_any (some ⟨g, 0, none⟩) a cc c0 xs xs w8 (HRP.out.1.below HB8.out) (HX.out.below (trans2 HW5.out HB8.out)) (by have := HL.out; unfold maxLen; omega)).mono ?_
      rintro e w9 ⟨rfl, m, rfl⟩
      rw [decide_eq_true (rfl : xs = xs)]
      have h94 : (w8.drewN m).cell? ⟨g, xs.length, none⟩ = some (.int .u8 94) := by show w8.cell? _ = _; exact cell_low HRP.out.2.2.2 HB8.out
      go_wp2_with fail
      clear h94
      have HGL : Hid (g < w5.heap.size) := (World.ownsRow.lt HO5'.out g rfl).2
      have HS6 : Hid (w5.heap.size ≤ w6.heap.size) := hz6
      have HS7 : Hid (w6.heap.size + 1 ≤ w7.heap.size) := hz7
      have HS8 : Hid (w7.heap.size + 1 ≤ w8.heap.size) := hz8
      have HG6 : Hid (g < w6.heap.size) := by have := HGL.out; show _ < _; omega
      have HG7 : Hid (g < w7.heap.size) := by have := HGL.out; show _ < _; omega
      have HG8 : Hid (g < w8.heap.size) := by have := HGL.out; show _ < _; omega
      have H68 : Hid (w6.heap.size < w8.heap.size) := by show _ < _; omega
      have H78 : Hid (w7.heap.size < w8.heap.size) := by show _ < _; omega
      have HW8 : Hid (W.heap.size ≤ w8.heap.size) := (trans2 HW5.out HB8.out).size
      clear hz6 hz7 hz8
      go_loopw [15, 16] (fun v i wr => ∃ q : Nat, i = .int .i64 q ∧ q ≤ xs.length ∧ Hid (wr.ownsRow W.heap.size 5 1 (.slice (some ⟨g, 0, none⟩) (xs.length + 1) cc) (xs.length + 1) (bv (upB xs q ++ [94]))) ∧ Hid (wr.ownsRow w8.heap.size 5 1 v ((xs.take q).map tb).length (bv ((xs.take q).map tb))) ∧ Hid (Below W.heap.size W wr) ∧ Hid (wr.heap[w6.heap.size]? = some (.cells (shA st5 p5 k5 la5 L5 lc5) 25 (0, 0))) ∧ Hid (wr.heap[w7.heap.size]? = some (.cells (shA st5 p5 k5 la7 L5 lc7) 25 (0, 0))) ∧ Hid (w8.heap.size ≤ wr.heap.size)) (fun _ i _ => xs.length - (intOf i).toNat)
      case atStart => exact ⟨0, rfl, Nat.zero_le _, by rw [upB_zero]; exact row_low (ownsLowF HO5'.out HWs.out.size) (below_drewN HB8.out _), World.ownsRow_nil _ _ _ _, trans2 HW5.out (below_drewN HB8.out _), HX8.out.box, HX8'.out.box, Nat.le_refl _⟩
      case round =>
        obtain ⟨q, rfl, hq, HOr, HNr, HWr, Hb6, Hb7, HZr⟩ := hrel
        by_cases hlt : q < xs.length
        · obtain ⟨x, hx⟩ : ∃ x, xs[q]? = some x := ⟨xs[q], List.getElem?_eq_getElem hlt⟩
          have HXq : Hid (xs[q]? = some x) := hx
          have hxb := HB.out x (List.mem_of_getElem? hx)
          have hcq : wr.cell? ⟨g, q, none⟩ = some (.int .u8 x) := by rw [HOr.out.cellAt q (by omega)]; unfold bv; rw [List.getElem?_map, upB_at hx]; rfl
          have hqc : (q : Int) < (xs.length : Int) + 1 := by omega
          clear hx
          by_cases hA : 97 ≤ x ∧ x < 122
          · obtain ⟨hA1, hA2⟩ := hA
            have HT : Hid (tb x = x + 1) := by show _ = _; unfold tb; rw [if_pos ⟨hA1, hA2⟩]
            have hwp : IntKind.u8.wrap (x + 1) = x + 1 := by first | (rw [IntKind.wrap_u8]; omega) | (simp [IntKind.wrap]; omega) | (simp [IntKind.wrap, IntKind.bits, IntKind.signed]; omega)
            have hfz : wr.frozen? ⟨g, q, none⟩ = false := HOr.out.frozenAt q
            have hst := HOr.out.stored q (.int .u8 (x + 1))
            have HOs : Hid ((wr.setCell ⟨g, q, none⟩ (.int .u8 (x + 1))).ownsRow W.heap.size 5 1 (.slice (some ⟨g, 0, none⟩) (xs.length + 1) cc) (xs.length + 1) (bv (upB xs (q + 1) ++ [94]))) := by
              have h := hst.1
              rw [show (bv (upB xs q ++ [94])).set q (.int .u8 (x + 1)) = bv ((upB xs q ++ [94]).set q (tb x)) by rw [HT.out]; unfold bv; rw [List.map_set], upB_step HXq.out] at h
              exact h
            have HNs : Hid ((wr.setCell ⟨g, q, none⟩ (.int .u8 (x + 1))).ownsRow w8.heap.size 5 1 u15 ((xs.take q).map tb).length (bv ((xs.take q).map tb))) := HNr.out.kept hst.2 (by
              cases hu : u15.ownBlock with
              | none => exact .inl rfl
              | some k => exact .inr (fun h => by cases h; have := (HNr.out.lt _ hu).1; have := HG8.out; omega))
            have HWs : Hid (Below W.heap.size W (wr.setCell ⟨g, q, none⟩ (.int .u8 (x + 1)))) := HWr.out.grown hst.2 HWr.out.size (fun j hj => by cases hj; exact (World.ownsRow.lt HOr.out g rfl).1)
            have Hs6 : Hid ((wr.setCell ⟨g, q, none⟩ (.int .u8 (x + 1))).heap[w6.heap.size]? = some (.cells (shA st5 p5 k5 la5 L5 lc5) 25 (0, 0))) := (Below.heap_setCell wr _ _ _ (by have := HG6.out; show _ ≠ g; omega)).trans Hb6.out
            have Hs7 : Hid ((wr.setCell ⟨g, q, none⟩ (.int .u8 (x + 1))).heap[w7.heap.size]? = some (.cells (shA st5 p5 k5 la7 L5 lc7) 25 (0, 0))) := (Below.heap_setCell wr _ _ _ (by have := HG7.out; show _ ≠ g; omega)).trans Hb7.out
            have HZs : Hid (w8.heap.size ≤ (wr.setCell ⟨g, q, none⟩ (.int .u8 (x + 1))).heap.size) := by have := HZr.out; show _ ≤ _; simpa using this
            have hcs : (wr.setCell ⟨g, q, none⟩ (.int .u8 (x + 1))).cell? ⟨g, q, none⟩ = some (.int .u8 (x + 1)) := by
              rw [hst.1.cellAt q (by omega)]
              rw [List.getElem?_set_self (by rw [bv_len, List.length_append, upB_len]; omega)]
            clear hst
            go_wp2_with (first
              | (at_builtin; refine wpList_appD rfl _ _ rfl w8.heap.size u15 ((xs.take q).map tb) rfl (World.ownsRow.alloc HNs.out _) (some ⟨wr.heap.size, 0, none⟩) 1 1 [x + 1] rfl rfl (bys_one (heap_new' (by simp))) (fun h => by cases h) (by have := HL.out; simp; omega) (Nat.le_trans HZs.out (by simp)) ?_
                 intro v2 wn hon hgn hatn
                 have HON : Hid (wn.ownsRow w8.heap.size 5 1 v2 ((xs.take (q + 1)).map tb).length (bv ((xs.take (q + 1)).map tb))) := by show World.ownsRow _ _ _ _ _ _ _; rw [tk_step HXq.out, HT.out]; exact hon
                 have HBn : Hid (Below w8.heap.size (wr.setCell ⟨g, q, none⟩ (.int .u8 (x + 1))) wn) := ((Below.refl w8.heap.size (wr.setCell ⟨g, q, none⟩ (.int .u8 (x + 1)))).alloc HZs.out _).trans ((Below.refl _ _).grown hgn (Nat.le_trans HZs.out (by simp)) (fun j hj => (HNs.out.lt j hj).1))
                 clear hon hgn hatn)
              | fail)
            go_roundw
            case rel => exact ⟨q + 1, by go_num, by omega, row_blk HOs.out (HBn.out.block g HG8.out), HON, HWs.out.trans (low_le HBn.out HW8.out), (HBn.out.block _ H68.out).trans Hs6.out, (HBn.out.block _ H78.out).trans Hs7.out, Nat.le_trans HZs.out HBn.out.size⟩
            case measure => simp [intOf]; omega
          · have HT : Hid (tb x = x) := by show _ = _; unfold tb; rw [if_neg hA]
            have HOs : Hid (wr.ownsRow W.heap.size 5 1 (.slice (some ⟨g, 0, none⟩) (xs.length + 1) cc) (xs.length + 1) (bv (upB xs (q + 1) ++ [94]))) := by have := HOr.out; rw [upB_stay HXq.out HT.out] at this; exact this
            have HNs := HNr
            have HWs := HWr
            have Hs6 := Hb6
            have Hs7 := Hb7
            have HZs := HZr
            by_cases hA1 : 97 ≤ x
            · have hA2 : ¬ x < 122 := fun h => hA ⟨hA1, h⟩
              clear hA
              go_wp2_with (first
                | (at_builtin; refine wpList_appD rfl _ _ rfl w8.heap.size u15 ((xs.take q).map tb) rfl (World.ownsRow.alloc HNs.out _) (some ⟨wr.heap.size, 0, none⟩) 1 1 [x] rfl rfl (bys_one (heap_alloc_new _ _)) (fun h => by cases h) (by have := HL.out; simp; omega) (Nat.le_trans HZs.out (by simp)) ?_
                   intro v2 wn hon hgn hatn
                   have HON : Hid (wn.ownsRow w8.heap.size 5 1 v2 ((xs.take (q + 1)).map tb).length (bv ((xs.take (q + 1)).map tb))) := by show World.ownsRow _ _ _ _ _ _ _; rw [tk_step HXq.out, HT.out]; exact hon
                   have HBn : Hid (Below w8.heap.size wr wn) := ((Below.refl w8.heap.size wr).alloc HZs.out _).trans ((Below.refl _ _).grown hgn (Nat.le_trans HZs.out (by simp)) (fun j hj => (HNs.out.lt j hj).1))
                   clear hon hgn hatn)
                | fail)
              go_roundw
              case rel => exact ⟨q + 1, by go_num, by omega, row_blk HOs.out (HBn.out.block g HG8.out), HON, HWs.out.trans (low_le HBn.out HW8.out), (HBn.out.block _ H68.out).trans Hs6.out, (HBn.out.block _ H78.out).trans Hs7.out, Nat.le_trans HZs.out HBn.out.size⟩
              case measure => simp [intOf]; omega
            · clear hA
              go_wp2_with (first
                | (at_builtin; refine wpList_appD rfl _ _ rfl w8.heap.size u15 ((xs.take q).map tb) rfl (World.ownsRow.alloc HNs.out _) (some ⟨wr.heap.size, 0, none⟩) 1 1 [x] rfl rfl (bys_one (heap_alloc_new _ _)) (fun h => by cases h) (by have := HL.out; simp; omega) (Nat.le_trans HZs.out (by simp)) ?_
                   intro v2 wn hon hgn hatn
                   have HON : Hid (wn.ownsRow w8.heap.size 5 1 v2 ((xs.take (q + 1)).map tb).length (bv ((xs.take (q + 1)).map tb))) := by show World.ownsRow _ _ _ _ _ _ _; rw [tk_step HXq.out, HT.out]; exact hon
                   have HBn : Hid (Below w8.heap.size wr wn) := ((Below.refl w8.heap.size wr).alloc HZs.out _).trans ((Below.refl _ _).grown hgn (Nat.le_trans HZs.out (by simp)) (fun j hj => (HNs.out.lt j hj).1))
                   clear hon hgn hatn)
                | fail)
              go_roundw
              case rel => exact ⟨q + 1, by go_num, by omega, row_blk HOs.out (HBn.out.block g HG8.out), HON, HWs.out.trans (low_le HBn.out HW8.out), (HBn.out.block _ H68.out).trans Hs6.out, (HBn.out.block _ H78.out).trans Hs7.out, Nat.le_trans HZs.out HBn.out.size⟩
              case measure => simp [intOf]; omega
        · have hqe : q = xs.length := by omega
          subst hqe
          have HOe : Hid (wr.ownsRow W.heap.size 5 1 (.slice (some ⟨g, 0, none⟩) (xs.length + 1) cc) (xs.length + 1) (bv (xs.map tb ++ [94]))) := by have := HOr.out; rw [upB_all] at this; exact this
          have HNe : Hid (wr.ownsRow w8.heap.size 5 1 u15 xs.length (bv (xs.map tb))) := by have := HNr.out; rw [List.take_length, List.length_map] at this; exact this
          clear HOr HNr
          have HRe : Hid (Bys wr (some ⟨g, 0, none⟩) (xs.map tb) ∧ cc ≤ maxLen) := row_pre2 (List.length_map _) HOe.out
          obtain ⟨na, nc, hun, hbn, hnn, hn0, hn1, hn2⟩ := bys_of_owns HNe.out
          rw [List.length_map] at hun hn1
          subst hun
          have HBN : Hid (Bys wr na (xs.map tb) ∧ xs.length ≤ nc ∧ nc ≤ maxLen) := ⟨hbn, hn1, hn2⟩
          clear hbn hn0 hn1 hn2
          have HD2 : Hid (Calls Tryd.prog 4 #[.slice (some ⟨g, 0, none⟩) xs.length cc] wr fun e w' => DecEnd (xs.map tb) wr w' e) := by
            have := decode_any (some ⟨g, 0, none⟩) cc (xs.map tb) wr (HG.out.below HWr.out) HRe.out.1 (byt_tb HB.out) (by rw [List.length_map]; have := HL.out; omega) (by rw [List.length_map]; omega) HRe.out.2
            rw [List.length_map] at this
            exact this
          go_wp2_with fail
          refine Calls.mono HD2.out ?_
          rintro e wA ⟨stA, pA, kA, laA, lcA, lA, codeA, rfl, hsA, hrA, hbA⟩
          obtain ⟨LA, hLA⟩ : ∃ L, lA.length = L := ⟨_, rfl⟩
          rw [hLA]
          have HLA : Hid (lA.length = LA) := hLA
          have HRA : Hid (DecRes (xs.map tb) codeA stA pA kA lA) := hrA
          have HBA : Hid (Below wr.heap.size wr wA) := hbA
          have HSA : Hid (Ss wA laA lA) := hsA
          have H6A : Hid (wA.heap[w6.heap.size]? = some (.cells (shA st5 p5 k5 la5 L5 lc5) 25 (0, 0))) := kept_block hbA Hb6.out
          have H7A : Hid (wA.heap[w7.heap.size]? = some (.cells (shA st5 p5 k5 la7 L5 lc7) 25 (0, 0))) := kept_block hbA Hb7.out
          clear hLA hrA hbA hsA
          obtain ⟨s0, s1, s2, s3⟩ := cells_4 H6A.out
          have f4 := free_4 H6A.out
          go_wp2_with fail
          clear s0 s1 s2 s3 f4
          have HW6 : Hid (W.heap.size ≤ w6.heap.size) := by have := HW5.out.size; have := HS6.out; show _ ≤ _; omega
          have HBB : Hid (Below W.heap.size W (put_4 wA w6.heap.size (.int .i64 stA) (.string pA) (.int .i64 kA) (.slice laA LA lcA))) := fillB_4 (trans2 HWr.out HBA.out) HW6.out
          have H6B : Hid ((put_4 wA w6.heap.size (.int .i64 stA) (.string pA) (.int .i64 kA) (.slice laA LA lcA)).heap[w6.heap.size]? = some (.cells (shA stA pA kA laA LA lcA) 25 (0, 0))) := fill_4 H6A.out
          have H7B : Hid ((put_4 wA w6.heap.size (.int .i64 stA) (.string pA) (.int .i64 kA) (.slice laA LA lcA)).heap[w7.heap.size]? = some (.cells (shA st5 p5 k5 la7 L5 lc7) 25 (0, 0))) := fillO_4 H7A.out (by have := HS7.out; omega)
          have HSB : Hid (Ss (put_4 wA w6.heap.size (.int .i64 stA) (.string pA) (.int .i64 kA) (.slice laA LA lcA)) laA lA) := ss_box HSA.out H6A.out (fun j hj => put4_other _ _ _ _ _ _ j hj) (Nat.le_of_eq (put4_size _ _ _ _ _ _).symm)
          have HND : Hid (Bys (put_4 wA w6.heap.size (.int .i64 stA) (.string pA) (.int .i64 kA) (.slice laA LA lcA)) na (xs.map tb)) := bys_kept (HBN.out.1.below HBA.out) (Nat.le_of_eq (put4_size _ _ _ _ _ _).symm) (fun b o hb => put4_other _ _ _ _ _ _ b (own_ne HNe.out H68.out b o hb))
          have HRD2 : Hid (Calls Tryd.prog 5 #[.slice na xs.length nc] (put_4 wA w6.heap.size (.int .i64 stA) (.string pA) (.int .i64 kA) (.slice laA LA lcA)) fun e w' => DecEnd (xs.map tb) (put_4 wA w6.heap.size (.int .i64 stA) (.string pA) (.int .i64 kA) (.slice laA LA lcA)) w' e) := by
            have := refDecode_any na nc (xs.map tb) _ HND.out (byt_tb HB.out) (by rw [List.length_map]; have := HL.out; omega) (by rw [List.length_map]; exact HBN.out.2.1) HBN.out.2.2
            rw [List.length_map] at this
            exact this
          refine Calls.mono HRD2.out ?_
          rintro e wC ⟨stC, pC, kC, laC, lcC, lC, codeC, rfl, hsC, hrC, hbC⟩
          obtain ⟨rfl, rfl, rfl, rfl, rfl⟩ := HRA.out.one hrC
          rw [HLA.out]
          have HBC : Hid (Below W.heap.size W wC) := trans2 HBB.out hbC
          have H6C : Hid (wC.heap[w6.heap.size]? = some (.cells (shA stA pA kA laA LA lcA) 25 (0, 0))) := kept_block hbC H6B.out
          have H7C : Hid (wC.heap[w7.heap.size]? = some (.cells (shA st5 p5 k5 la7 L5 lc7) 25 (0, 0))) := kept_block hbC H7B.out
          have HSC : Hid (Ss wC laA lA) := HSB.out.below hbC
          have HSD : Hid (Ss wC laC lA) := hsC
          clear hbC hsC hrC
          obtain ⟨s0, s1, s2, s3⟩ := cells_4 H7C.out
          have f4 := free_4 H7C.out
          go_wp2_with fail
          clear s0 s1 s2 s3 f4
          have HW7 : Hid (W.heap.size ≤ w7.heap.size) := by have := HW6.out; have := HS7.out; show _ ≤ _; omega
          have HKD0 : Hid (KT W (put_4 wC w7.heap.size (.int .i64 stA) (.string pA) (.int .i64 kA) (.slice laC LA lcC)) w6.heap.size w7.heap.size stA pA kA laA laC LA lcA lcC lA) := ⟨fillB_4 HBC.out HW7.out, fillO_4 H6C.out (by have := HS7.out; omega), fill_4 H7C.out, ss_box HSC.out H7C.out (fun j hj => put4_other _ _ _ _ _ _ j hj) (Nat.le_of_eq (put4_size _ _ _ _ _ _).symm), ss_box HSD.out H7C.out (fun j hj => put4_other _ _ _ _ _ _ j hj) (Nat.le_of_eq (put4_size _ _ _ _ _ _).symm)⟩
          have HZ0 : Hid ((put_4 wC w7.heap.size (.int .i64 stA) (.string pA) (.int .i64 kA) (.slice laC LA lcC)).heap.size = wC.heap.size) := put4_size _ _ _ _ _ _
          unfold put_4 at HKD0 HZ0
          generalize hwD : (((wC.setCell ⟨w7.heap.size, 0, none⟩ (.int .i64 stA)).setCell ⟨w7.heap.size, 1, none⟩ (.string pA)).setCell ⟨w7.heap.size, 2, none⟩ (.int .i64 kA)).setCell ⟨w7.heap.size, 3, none⟩ (.slice laC LA lcC) = wD at HKD0 HZ0 ⊢
          clear hwD
          have HLC : Hid (w7.heap.size < wC.heap.size) := lt_of_blk H7C.out
          have HYD : Hid ((wD.alloc (.cells #[.int .u8 0, .int .u8 2, .int .u8 47, .int .u8 97, .int .u8 1, .int .u8 0] 5)).heap[wC.heap.size]? = some (.cells #[.int .u8 0, .int .u8 2, .int .u8 47, .int .u8 97, .int .u8 1, .int .u8 0] 5 (0, 0))) := by show _ = _; rw [← HZ0.out]; exact heap_alloc_new _ _
          have HKD : Hid (KT W (wD.alloc (.cells #[.int .u8 0, .int .u8 2, .int .u8 47, .int .u8 97, .int .u8 1, .int .u8 0] 5)) w6.heap.size w7.heap.size stA pA kA laA laC LA lcA lcC lA) := HKD0.out.below ((Below.refl _ _).alloc (Nat.le_refl _) _)
          refine Calls.mono (decode_any (some ⟨wC.heap.size, 0, none⟩) 6 [0, 2, 47, 97, 1, 0] _ (HG.out.below HKD.out.low) (bys_six HYD.out) (by intro z hz; simp at hz; omega) (by simp) (by simp) (by unfold maxLen; omega)) ?_
          rintro e wE ⟨stX, pX, kX, laX, lcX, lX, codeX, rfl, hsX, hrX, hbX⟩
          obtain ⟨rfl, rfl⟩ := dec_a hrX
          obtain ⟨LX, hLX⟩ : ∃ L, lX.length = L := ⟨_, rfl⟩
          rw [hLX]
          have HKE : Hid (KT W (wE.alloc (.cells (shA stX ⟨#[47, 97]⟩ kX laX LX lcX) 25)) w6.heap.size w7.heap.size stA pA kA laA laC LA lcA lcC lA) := (HKD.out.below hbX).below ((Below.refl _ _).alloc (Nat.le_refl _) _)
          have HYE : Hid ((wE.alloc (.cells (shA stX ⟨#[47, 97]⟩ kX laX LX lcX) 25)).heap[wC.heap.size]? = some (.cells #[.int .u8 0, .int .u8 2, .int .u8 47, .int .u8 97, .int .u8 1, .int .u8 0] 5 (0, 0))) := new_old (kept_block hbX HYD.out) _
          have HXE : Hid ((wE.alloc (.cells (shA stX ⟨#[47, 97]⟩ kX laX LX lcX) 25)).heap[wE.heap.size]? = some (.cells (shA stX ⟨#[47, 97]⟩ kX laX LX lcX) 25 (0, 0))) := heap_alloc_new _ _
          have HLE : Hid (wC.heap.size < wE.heap.size) := lt_of_blk (kept_block hbX HYD.out)
          clear hLX hrX hbX hsX
          have hy3 : (wE.alloc (.cells (shA stX ⟨#[47, 97]⟩ kX laX LX lcX) 25)).cell? ⟨wC.heap.size, 3, none⟩ = some (.int .u8 97) := by simp [World.cell?, HYE.out]
          have hyf : (wE.alloc (.cells (shA stX ⟨#[47, 97]⟩ kX laX LX lcX) 25)).frozen? ⟨wC.heap.size, 3, none⟩ = false := by simp [World.frozen?, HYE.out]
          go_wp2_with fail
          clear hy3 hyf
          have HKF : Hid (KT W ((wE.alloc (.cells (shA stX ⟨#[47, 97]⟩ kX laX LX lcX) 25)).setCell ⟨wC.heap.size, 3, none⟩ (.int .u8 98)) w6.heap.size w7.heap.size stA pA kA laA laC LA lcA lcC lA) := HKE.out.set (fun o q h => six_no HYE.out o q h) (by have := HLC.out; have := HS7.out; omega) (by have := HLC.out; omega) (by have := HLC.out; have := HW7.out; omega)
          have HYF : Hid (((wE.alloc (.cells (shA stX ⟨#[47, 97]⟩ kX laX LX lcX) 25)).setCell ⟨wC.heap.size, 3, none⟩ (.int .u8 98)).heap[wC.heap.size]? = some (.cells #[.int .u8 0, .int .u8 2, .int .u8 47, .int .u8 98, .int .u8 1, .int .u8 0] 5 (0, 0))) := same_blk (i := 3) (v := .int .u8 98) (cs' := #[.int .u8 0, .int .u8 2, .int .u8 47, .int .u8 98, .int .u8 1, .int .u8 0]) HYE.out rfl
          have HXF : Hid (((wE.alloc (.cells (shA stX ⟨#[47, 97]⟩ kX laX LX lcX) 25)).setCell ⟨wC.heap.size, 3, none⟩ (.int .u8 98)).heap[wE.heap.size]? = some (.cells (shA stX ⟨#[47, 97]⟩ kX laX LX lcX) 25 (0, 0))) := other_blk HXE.out (by have := HLE.out; omega)
          refine Calls.mono (decode_any (some ⟨wC.heap.size, 0, none⟩) 6 [0, 2, 47, 98, 1, 0] _ (HG.out.below HKF.out.low) (bys_six HYF.out) (by intro z hz; simp at hz; omega) (by simp) (by simp) (by unfold maxLen; omega)) ?_
          rintro e wG ⟨stZ, pZ, kZ, laZ, lcZ, lZ, codeZ, rfl, hsZ, hrZ, hbZ⟩
          obtain ⟨rfl, rfl⟩ := dec_b hrZ
          obtain ⟨LZ, hLZ⟩ : ∃ L, lZ.length = L := ⟨_, rfl⟩
          rw [hLZ]
          have HKG : Hid (KT W (wG.alloc (.cells (shA stZ ⟨#[47, 98]⟩ kZ laZ LZ lcZ) 25)) w6.heap.size w7.heap.size stA pA kA laA laC LA lcA lcC lA) := (HKF.out.below hbZ).below ((Below.refl _ _).alloc (Nat.le_refl _) _)
          have HXG : Hid ((wG.alloc (.cells (shA stZ ⟨#[47, 98]⟩ kZ laZ LZ lcZ) 25)).heap[wE.heap.size]? = some (.cells (shA stX ⟨#[47, 97]⟩ kX laX LX lcX) 25 (0, 0))) := new_old (kept_block hbZ HXF.out) _
          have HZG : Hid ((wG.alloc (.cells (shA stZ ⟨#[47, 98]⟩ kZ laZ LZ lcZ) 25)).heap[wG.heap.size]? = some (.cells (shA stZ ⟨#[47, 98]⟩ kZ laZ LZ lcZ) 25 (0, 0))) := heap_alloc_new _ _
          clear hLZ hrZ hbZ hsZ
          go_wp2_with fail
          refine (num_any _ _).mono ?_
          rintro e wH ⟨rfl, rfl⟩
          obtain ⟨a0, a1, a2, a3⟩ := cells_4 HKG.out.x6
          obtain ⟨b0, b1, b2, b3⟩ := cells_4 HKG.out.x7
          go_wp2_with fail
          clear a0 a1 a2 a3 b0 b1 b2 b3
          have HLMA : Hid (LA ≤ maxLen) := by show _ ≤ _; rw [← HLA.out]; exact decRes_len HRA.out
          refine (alike_same stA pA kA laA laC LA lcA lcC lA _ HLA.out HKG.out.s6 HKG.out.s7 HLMA.out).mono ?_
          rintro e wI ⟨rfl, hbI⟩
          have HKI : Hid (KT W wI w6.heap.size w7.heap.size stA pA kA laA laC LA lcA lcC lA) := HKG.out.below hbI
          obtain ⟨a0, a1, a2, a3⟩ := cells_4 (kept_block hbI HXG.out)
          obtain ⟨b0, b1, b2, b3⟩ := cells_4 (kept_block hbI HZG.out)
          clear hbI
          go_wp2_with fail
          go_ret
          exact ⟨rfl, HKI.out.low⟩
  · have hl2 : (40000 : Int) < (xs.length : Int) := by omega
    clear hx hb hn hc hcm hg hl
    go_enter Tryd.func3, Tryd.ntmps3
    go_wp2_with fail
    go_ret
    exact ⟨rfl, Below.refl _ _⟩
end Go.Proofs.YtponpkfdkdnaeaaDoor
