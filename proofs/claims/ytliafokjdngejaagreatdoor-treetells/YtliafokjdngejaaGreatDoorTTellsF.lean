/-
  TreeTells: at, turned of the law.
-/
import Derived.Test.YtliafokjdngejaaGreatDoorTTellsP
import Derived.Deep.AppendLies
namespace Go.Proofs.YtliafokjdngejaaGreatDoor
open Go.RowKit Go.Maps Go.WideShapes
set_option linter.unusedVariables false
set_option linter.unusedSimpArgs false
attribute [local go_sem ↓] Go.wp_at_zero Go.wp_at_succ

set_option maxHeartbeats 3200000 in
set_option maxRecDepth 100000 in
theorem atT_any (B : Nat) (va : Value) (L : List SnT) (p : ByteArray) (r : Int) (w : World) (h : w.ownsRow B 101 3 va L.length (L.flatMap SnT.cs)) (hl : L.length ≤ 1000) (hr : (∃ (i : Nat) (x : SnT), L[i]? = some x ∧ x.p = p ∧ Fst L i p ∧ r = i) ∨ ((∀ x ∈ L, x.p ≠ p) ∧ r = -1)) :
    Calls Tryz.prog 49 #[va, .string p] w fun e w' => e = .returned (.int .i64 r) ∧ w' = w := by
  obtain ⟨a, c, rfl⟩ := slice_of h
  have H1 : Hid _ := h
  have HR : Hid _ := hr
  obtain ⟨N, hN⟩ : ∃ N, L.length = N := ⟨_, rfl⟩
  have HN : Hid (L.length = N) := hN
  rw [hN] at hl ⊢
  clear h hN hr
  go_enter Tryz.func49, Tryz.ntmps49
  go_wp2_with fail
  go_loopw [5] (fun i wr => ∃ q : Nat, i = .int .i64 q ∧ q ≤ N ∧ Hid (Fst L q p) ∧ wr = w) (fun i _ => N - (intOf i).toNat)
  case atStart => exact ⟨0, rfl, Nat.zero_le _, fun j y hj _ => absurd hj (Nat.not_lt_zero j), rfl⟩
  case round =>
    obtain ⟨q, rfl, hq, HF, hwr⟩ := hrel
    have hwr' := hwr.symm
    subst hwr'
    by_cases hlt : q < N
    · have hlt' : (q : Int) < (N : Int) := by omega
      obtain ⟨x, hx⟩ : ∃ x, L[q]? = some x := ⟨L[q]'(by rw [HN.out]; exact hlt), List.getElem?_eq_getElem _⟩
      obtain ⟨g1, c1, e1⟩ := form_n H1.out (by rw [HN.out]; omega)
      obtain ⟨rfl, rfl⟩ : a = some ⟨g1, 0, none⟩ ∧ c = c1 := by simpa using e1
      have k0 : w.cell? ⟨g1, q * 3, none⟩ = some (.string x.p) := sn_cell (j := 0) H1.out hx rfl
      by_cases hp : x.p = p
      · have HE : Hid (r = q) := by
          show r = q
          rcases HR.out with ⟨i, y, hy, hyp, hf, rfl⟩ | ⟨hno, _⟩
          · have h1 : ¬ q < i := fun h => hf q x h hx hp
            have h2 : ¬ i < q := fun h => HF.out i y h hy hyp
            have : i = q := by omega
            rw [this]
          · exact absurd hp (hno x (List.mem_of_getElem? hx))
        have hc : (x.p.toList == p.toList) = true := by rw [hp]; simp
        clear hx hp e1
        go_wp2_with fail
        go_ret
        exact ⟨by rw [HE.out]; rfl, rfl⟩
      · have HE : Hid (Fst L (q + 1) p) := fun j y hj hy => by
          by_cases h9 : j < q
          · exact HF.out j y h9 hy
          · obtain rfl : j = q := by omega
            rw [hx] at hy
            obtain rfl := Option.some.inj hy
            exact hp
        have hc : (x.p.toList == p.toList) = false := beq_ne hp
        clear hx hp e1
        go_wp2_with fail
        go_roundw
        case rel => exact ⟨q + 1, by go_num, by omega, HE.out, by trivial⟩
        case measure => simp [intOf]; omega
    · obtain rfl : q = N := by omega
      have HE : Hid (r = -1) := by
        show r = -1
        rcases HR.out with ⟨i, y, hy, hyp, hf, rfl⟩ | ⟨_, e⟩
        · exact absurd hyp (HF.out i y (by rw [← HN.out]; exact (List.getElem?_eq_some_iff.1 hy).1) hy)
        · exact e
      go_wp2_with fail
      go_ret
      exact ⟨by rw [HE.out]; rfl, rfl⟩
theorem Turns.seq {l l' : List SnT} {C : List ChT} (h : Turns l C l') : ∃ f : Nat → List SnT, f 0 = l ∧ f C.length = l' ∧ ∀ k c, C[k]? = some c → Turn (f k) c (f (k + 1)) := by
  induction h with
  | nil => exact ⟨fun _ => l, rfl, rfl, fun k c hc => by simp at hc⟩
  | @snoc l1 l2 C c h1 h2 ih =>
    obtain ⟨f, f0, fn, hf⟩ := ih
    refine ⟨fun k => if k ≤ C.length then f k else l2, by simp [f0], by rw [List.length_append]; show (if C.length + 1 ≤ C.length then _ else _) = _; rw [if_neg (by omega)], fun k c' hc' => ?_⟩
    by_cases hk : k < C.length
    · rw [List.getElem?_append_left hk] at hc'
      have := hf k c' hc'
      simp only [if_pos (show k ≤ C.length by omega), if_pos (show k + 1 ≤ C.length by omega)]
      exact this
    · rw [List.getElem?_append_right (by omega)] at hc'
      have hk2 : k - C.length = 0 := by
        rcases Nat.eq_zero_or_pos (k - C.length) with g | g
        · exact g
        · rw [List.getElem?_eq_none (by simp; omega)] at hc'
          cases hc'
      rw [hk2] at hc'
      obtain rfl : c = c' := by simpa using hc'
      have e : k = C.length := by omega
      subst e
      simp only [Nat.le_refl, if_true, if_neg (show ¬ C.length + 1 ≤ C.length by omega)]
      rw [fn]
      exact h2
theorem Turn.inv {L L' : List SnT} {c : ChT} (h : Turn L c L') : (∃ p d, c = ⟨1, p, d, 0⟩ ∧ (∀ x ∈ L, x.p ≠ p) ∧ L' = L ++ [⟨p, d, 0⟩]) ∨ (∃ (i : Nat) (x : SnT) (d : ByteArray), c = ⟨2, x.p, d, x.v + 1⟩ ∧ L[i]? = some x ∧ Fst L i x.p ∧ 0 ≤ x.v ∧ x.v < 2147483647 ∧ L' = L.set i ⟨x.p, d, x.v + 1⟩) ∨ (∃ (i : Nat) (x z : SnT), c = ⟨3, x.p, ⟨#[]⟩, x.v⟩ ∧ L[i]? = some x ∧ Fst L i x.p ∧ L.getLast? = some z ∧ L' = (L.set i z).dropLast) := by
  cases h with
  | make p d h => exact .inl ⟨p, d, rfl, h, rfl⟩
  | set i x d h1 h2 h3 h4 => exact .inr (.inl ⟨i, x, d, rfl, h1, h2, h3, h4, rfl⟩)
  | drop i x z h1 h2 h3 => exact .inr (.inr ⟨i, x, z, rfl, h1, h2, h3, rfl⟩)
theorem Turn.len {L L' : List SnT} {c : ChT} (h : Turn L c L') : L'.length ≤ L.length + 1 := by
  cases h with
  | make p d h => simp
  | set i x d h1 h2 h3 h4 => simp
  | drop i x z h1 h2 h3 => simp; omega
theorem chgV {w wr w4 : World} {u v0 : Value} (hC : Chg w wr (fun k => v0.ownBlock = some k)) (hu : ∀ k, u.ownBlock = some k → v0.ownBlock = some k ∨ w.heap.size ≤ k) (h1 : Chg wr w4 (fun k => u.ownBlock = some k)) : Chg w w4 (fun k => v0.ownBlock = some k) := by
  refine ⟨h1.os.trans hC.os, h1.tape.trans hC.tape, h1.output.trans hC.output, Nat.le_trans hC.size h1.size, fun k hk hn => ?_⟩
  rw [h1.block k (Nat.lt_of_lt_of_le hk hC.size) (fun e => ?_), hC.block k hk hn]
  rcases hu k e with h | h
  · exact hn h
  · omega
/-- A row of changes stays as what is seen turns. -/
theorem ch_keep {w w' : World} {B2 : Nat} {cV v0 : Value} {C : List ChT} {B1 n : Nat} {xs : List Value} (h : w.ownsRow B2 56 4 cV C.length (chCs C)) (hr : w.ownsRow B1 101 3 v0 n xs) (hc : Chg w w' (fun k => v0.ownBlock = some k)) : w'.ownsRow B2 56 4 cV C.length (chCs C) :=
  owns_chg h hc (fun k hk e => by
    obtain ⟨cur, h1⟩ := owns_kind h hk
    obtain ⟨cur', h2⟩ := owns_kind hr e
    rw [h1] at h2
    simp at h2)
/-- A shorter row. -/
theorem row_short {w : World} {B t s n g cap : Nat} {xs : List Value} (h : w.ownsRow B t s (.slice (some ⟨g, 0, none⟩) (n + 1) cap) (n + 1) xs) : w.ownsRow B t s (.slice (some ⟨g, 0, none⟩) n cap) n (xs.take (n * s)) := by
  obtain ⟨h1, h2⟩ := h
  rcases h2 with ⟨e, _⟩ | ⟨g', cap', cur, e, hb, hg, hc, hm, hsz, ht⟩
  · cases e
  · obtain ⟨rfl, rfl⟩ : g = g' ∧ cap = cap' := by simpa using e
    refine ⟨?_, .inr ⟨g, cap, cur, rfl, hb, hg, by omega, hm, hsz, ?_⟩⟩
    · rw [List.length_take, h1]
      exact Nat.min_eq_left (Nat.mul_le_mul_right _ (by omega))
    · rw [← ht, List.take_take]
      congr 1
      exact (Nat.min_eq_left (Nat.mul_le_mul_right _ (by omega))).symm
theorem flat_dropLast (L : List SnT) (n : Nat) (hn : L.length = n + 1) : (L.flatMap SnT.cs).take (n * 3) = L.dropLast.flatMap SnT.cs := by
  rcases List.eq_nil_or_concat L with rfl | ⟨r, y, e⟩
  · simp at hn
  rw [List.concat_eq_append] at e
  subst e
  have hr : r.length = n := by simpa using hn
  rw [List.dropLast_concat, List.flatMap_append]
  have hl : (r.flatMap SnT.cs).length = n * 3 := by rw [← hr]; exact Fa.flat_len (cells := SnT.cs) (fun _ => rfl) r
  rw [List.take_append_of_le_length (by omega), ← hl, List.take_length]
def SnT.el (x : SnT) : Fa.El 3 := ⟨x.cs, rfl, by simp [Value.oneCell']⟩
theorem fl_el (L : List SnT) : Fa.fl (L.map SnT.el) = L.flatMap SnT.cs := by
  show (L.map SnT.el).flatMap (fun e : Fa.El 3 => e.1) = _
  rw [List.flatMap_map]
  rfl
/-- One of the row turned. -/
theorem sn_set {w : World} {B g cap : Nat} {L : List SnT} (h : w.ownsRow B 101 3 (.slice (some ⟨g, 0, none⟩) L.length cap) L.length (L.flatMap SnT.cs)) (i : Nat) (y : SnT) (hi : i < L.length) : (((w.setCell ⟨g, i * 3, none⟩ (.string y.p)).setCell ⟨g, i * 3 + 1, none⟩ (.string y.d)).setCell ⟨g, i * 3 + 2, none⟩ (.int .i64 y.v)).ownsRow B 101 3 (.slice (some ⟨g, 0, none⟩) (L.set i y).length cap) (L.set i y).length ((L.set i y).flatMap SnT.cs) := by
  have h1 : w.ownsRow B 101 3 (.slice (some ⟨g, 0, none⟩) (L.map SnT.el).length cap) (L.map SnT.el).length (Fa.fl (L.map SnT.el)) := by rw [fl_el, List.length_map]; exact h
  have h2 := Fa.row_sets (by decide) h1 i y.el (by rw [List.length_map]; exact hi)
  have e : (L.map SnT.el).set i y.el = (L.set i y).map SnT.el := by rw [List.map_set]
  rw [e, fl_el, List.length_map, List.length_map] at h2
  rw [List.length_set] at h2 ⊢
  exact h2
end Go.Proofs.YtliafokjdngejaaGreatDoor
