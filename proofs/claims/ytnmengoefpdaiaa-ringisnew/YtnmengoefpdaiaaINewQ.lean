/-
  ring, own.go: what was told goes into the book.
-/
import Derived.Test.YtnmengoefpdaiaaINewP
namespace Go.Proofs.Ytnmengoefpdaiaa.I
open Go.RowKit
set_option linter.unusedVariables false
set_option linter.unusedSimpArgs false

theorem Nd.right {A C : List Value} (h : Nd (A ++ C)) : Nd C := fun i j u v b hu hv hub hvb => by
  have := h (A.length + i) (A.length + j) u v b (by rw [List.getElem?_append_right (by omega)]; simpa using hu) (by rw [List.getElem?_append_right (by omega)]; simpa using hv) hub hvb
  omega
theorem Nd.left {A C : List Value} (h : Nd (A ++ C)) : Nd A := fun i j u v b hu hv hub hvb =>
  h i j u v b (by rw [List.getElem?_append_left (List.getElem?_eq_some_iff.1 hu).1]; exact hu) (by rw [List.getElem?_append_left (List.getElem?_eq_some_iff.1 hv).1]; exact hv) hub hvb
theorem Nd.sep {A C : List Value} (h : Nd (A ++ C)) {a c : Value} (ha : a ∈ A) (hc : c ∈ C) {b : Nat} (hab : a.ownBlock = some b) : c.ownBlock ≠ some b := fun hcb => by
  obtain ⟨i, hi⟩ := List.getElem?_of_mem ha
  obtain ⟨j, hj⟩ := List.getElem?_of_mem hc
  have hil := (List.getElem?_eq_some_iff.1 hi).1
  have := h i (A.length + j) a c b (by rw [List.getElem?_append_left hil]; exact hi) (by rw [List.getElem?_append_right (by omega)]; simpa using hj) hab hcb
  omega
theorem opsOf_take {PP : List (List PEnt)} {t : Nat} {P : List PEnt} (h : PP[t]? = some P) : opsOf (PP.take (t + 1)) = opsOf (PP.take t) ++ P.map (·.x) := by
  rw [take_at h]
  simp [opsOf]
theorem opsOf_split {PP : List (List PEnt)} {t : Nat} {P : List PEnt} (h : PP[t]? = some P) : opsOf PP = opsOf (PP.take t) ++ (P.map (·.x) ++ opsOf (PP.drop (t + 1))) := by
  have e : PP = PP.take t ++ P :: PP.drop (t + 1) := by
    obtain ⟨h1, h2⟩ := List.getElem?_eq_some_iff.1 h
    rw [← h2, ← List.drop_eq_getElem_cons h1, List.take_append_drop]
  conv => lhs; rw [e]
  simp [opsOf]
theorem ops_len : ∀ PP : List (List PEnt), (opsOf PP).length = ((PP.map (fun P => P.map (·.e))).map List.length).sum
  | [] => rfl
  | P :: PP => by
    have := ops_len PP
    simp only [opsOf, List.flatMap_cons, List.length_append, List.length_map, List.map_cons, List.sum_cons] at this ⊢
    rw [this]
theorem XA_sum (R : RingT) (ms : List Int) : ∀ t, ((XA R ms t).map List.length).sum ≤ R.l.length * t
  | 0 => by simp [XA]
  | t + 1 => by
    rw [XA_snoc, List.map_append, List.sum_append, List.map_cons, List.map_nil, List.sum_cons, List.sum_nil, Nat.mul_succ]
    have h1 := XA_sum R ms t
    have h2 : (Xa R ms t).length ≤ R.l.length := afterL_len _ _ _
    omega
theorem XS_sum (R : RingT) (t : Nat) : ((XS R t).map List.length).sum ≤ R.l.length := by
  have e : (XS R t).map List.length = List.replicate (R.l.take t).length 1 := by
    unfold XS
    rw [List.map_map]
    apply List.ext_getElem?
    intro i
    rw [List.getElem?_map, List.getElem?_replicate]
    split
    · rename_i hi
      rw [List.getElem?_eq_getElem hi]; rfl
    · rename_i hi
      rw [List.getElem?_eq_none (by omega)]; rfl
  rw [e, List.sum_replicate_nat, List.length_take]
  omega
theorem XX_sum (R : RingT) (ms : List Int) : ((XX R ms).map List.length).sum ≤ R.l.length + R.l.length * ms.length + R.l.length := by
  unfold XX
  rw [List.map_append, List.map_append, List.sum_append, List.sum_append]
  have h1 := XA_sum R ms ms.length
  have h2 := XS_sum R R.l.length
  simp only [List.map_cons, List.map_nil, List.sum_cons, List.sum_nil]
  omega
theorem XX_sub (R : RingT) (ms : List Int) : ∀ l ∈ XX R ms, l.length ≤ R.l.length ∧ ∀ e ∈ l, e ∈ R.l := fun l hl => by
  unfold XX at hl
  rcases List.mem_append.1 hl with hl | hl
  · rcases List.mem_append.1 hl with hl | hl
    · obtain rfl : l = R.l := by simpa using hl
      exact ⟨Nat.le_refl _, fun e he => he⟩
    · obtain ⟨i, _, rfl⟩ := List.mem_map.1 hl
      exact ⟨afterL_len _ _ _, fun e he => afterL_sub _ _ _ e he⟩
  · obtain ⟨e, he, rfl⟩ := List.mem_map.1 hl
    exact ⟨List.length_pos_of_mem (List.mem_of_mem_take he), fun x hx => by rw [show x = e by simpa using hx]; exact List.mem_of_mem_take he⟩
open Classical in
theorem sameAll_yes (a a' : Option Addr) (c c' n n' : Nat) (l l' : List PEnt) (w : World) (hs : EsAt w a l) (ht : EsAt w a' l') (hn : l.length = n) (hn' : l'.length = n') (hl : n ≤ maxLen) (he : l.map (·.e) = l'.map (·.e)) :
    Calls Try.prog 11 #[.slice a n c, .slice a' n' c'] w fun e w' => e = .returned (.bool true) ∧ Below w.heap.size w w' := by
  refine (sameAll_any a a' c c' n n' l l' w hs ht hn hn' hl).mono ?_
  rintro e w' ⟨rfl, hb⟩
  exact ⟨by rw [decide_eq_true he], hb⟩
/-- The book under way. -/
structure Lp (w9 w : World) (B : Nat) (hv hn : Value) (us : List Value) (PP : List (List PEnt)) (ls : List (List (El 5))) (ns : List (List (El 6))) (t : Nat) : Prop where
  below : Below w9.heap.size w9 w
  bo : Bo w B hv hn (.slice none 0 0) (.slice none 0 0) (opsOf (PP.take t)) (us.take t) ls ns
  nB : w9.heap.size ≤ B
  nV : ∀ b, hv.ownBlock = some b → w9.heap.size ≤ b
  nN : ∀ b, hn.ownBlock = some b → w9.heap.size ≤ b
  l1 : ∀ l ∈ ls, l.length ≤ 5000
  l2 : ∀ l ∈ ns, l.length ≤ 5000
theorem Lp.start {w9 w : World} {B : Nat} (us : List Value) (PP : List (List PEnt)) (hb : Below w9.heap.size w9 w) (hB : w9.heap.size ≤ B) (hx : w.heap[B]? = some (.cells #[.slice none 0 0, .slice none 0 0, .slice none 0 0, .slice none 0 0] 44 (0, 0))) : Lp w9 w B (.slice none 0 0) (.slice none 0 0) us PP [] [] 0 :=
  ⟨hb, ⟨hx, World.ownsRow_nil _ _ _ _, World.ownsRow_nil _ _ _ _, ⟨rfl, (fun k u l h => by simp [opsOf] at h), fun i j u v b h => by simp [opsOf] at h⟩, ⟨rfl, (fun k u l h => by simp at h), fun i j u v b h => by simp at h⟩⟩, hB, (fun b h => by cases h), (fun b h => by cases h), (fun l h => by cases h), fun l h => by cases h⟩
theorem Lp.ext {w9 w w' : World} {B : Nat} {hv hn : Value} {us : List Value} {PP : List (List PEnt)} {ls : List (List (El 5))} {ns : List (List (El 6))} {t : Nat} (h : Lp w9 w B hv hn us PP ls ns t) (hb : Below w.heap.size w w') : Lp w9 w' B hv hn us PP ls ns t := ⟨trans2 h.below hb, h.bo.on hb, h.nB, h.nV, h.nN, h.l1, h.l2⟩
theorem Lp.step {w1 w9 w : World} {B : Nat} {hv hn tv wv : Value} {us cs : List Value} {PP CC : List (List PEnt)} {ls : List (List (El 5))} {ns : List (List (El 6))} {t : Nat} (h : Lp w9 w B hv hn us PP ls ns t) (hT : Tl w1 w9 tv wv us cs PP CC) {u : Value} {P : List PEnt} (hu : us[t]? = some u) (hP : PP[t]? = some P) (hl : P.length ≤ 64) (hop : ∀ p ∈ P, p.e.ops.length ≤ 5000) (hbig : (opsOf PP).length ≤ 4900) (hus : us.length ≤ 4900) :
    Calls Try.prog 12 #[.pointer (some ⟨B, 0, none⟩), u] w fun e w' => e = .returned (.tuple #[]) ∧ ∃ hv' hn' ls' ns', Lp w9 w' B hv' hn' us PP ls' ns' (t + 1) := by
  have hsp := opsOf_split hP
  have hnd := hT.ndO
  rw [hsp] at hnd
  have hlen : (opsOf (PP.take t)).length ≤ 4900 := by rw [hsp, List.length_append] at hbig; omega
  refine (takes_any B hv hn (.slice none 0 0) (.slice none 0 0) (opsOf (PP.take t)) (us.take t) ls ns u P w h.bo ((hT.each.2 t u P hu hP).belowB h.below) (fun b hb hF => ?_) (fun p hp b hb hF => ?_) (fun i j p q k hp hq hpk hqk => ?_) hl hlen (by rw [List.length_take]; omega)).mono ?_
  · obtain ⟨k, v, hv', hvb⟩ := hF
    have hk := (List.getElem?_eq_some_iff.1 hv').1
    rw [List.length_take] at hk
    rw [List.getElem?_take, if_pos (by omega)] at hv'
    have := hT.ndU k t v u b hv' hu hvb hb
    omega
  · obtain ⟨k, v, hv', hvb⟩ := hF
    exact hnd.sep (List.mem_of_getElem? hv') (List.mem_append.2 (.inl (List.mem_map_of_mem hp))) hvb hb
  · have h9 := hnd.right.left
    exact h9 i j p.x q.x k (by rw [List.getElem?_map, hp]; rfl) (by rw [List.getElem?_map, hq]; rfl) hpk hqk
  · rintro e w' ⟨rfl, hv', hn', l, hTk, hll⟩
    refine ⟨rfl, hv', hn', ls ++ P.map (fun p => p.e.ops.map opEl), ns ++ [l], ⟨?_, ?_, h.nB, fun b hb => ?_, fun b hb => ?_, fun x hx => ?_, fun x hx => ?_⟩⟩
    · exact h.below.trans (hTk.chg.below h.below.size (fun k _ e => by rcases e with e | e | e; (rw [e]; exact h.nB); exact h.nV k e; exact h.nN k e))
    · rw [opsOf_take hP, take_at hu]
      exact hTk.bo
    · rcases hTk.newV b hb with e | e
      · exact h.nV b e
      · exact Nat.le_trans h.below.size e
    · rcases hTk.newN b hb with e | e
      · exact h.nN b e
      · exact Nat.le_trans h.below.size e
    · rcases List.mem_append.1 hx with hx | hx
      · exact h.l1 x hx
      · obtain ⟨p, hp, rfl⟩ := List.mem_map.1 hx
        rw [List.length_map]
        exact hop p hp
    · rcases List.mem_append.1 hx with hx | hx
      · exact h.l2 x hx
      · obtain rfl : x = l := by simpa using hx
        rw [hll]
        omega
end Go.Proofs.Ytnmengoefpdaiaa.I
