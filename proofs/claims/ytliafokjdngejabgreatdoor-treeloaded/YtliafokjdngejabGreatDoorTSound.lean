import Derived.Test.YtliafokjdngejabGreatDoorTPlayed
import Derived.Test.YtliafokjdngejabGreatDoorTKnown
import Derived.BigQuiet
namespace Go.Proofs.YtliafokjdngejabGreatDoor
open Go.RowKit Go.Maps Go.WideShapes
set_option linter.unusedVariables false
set_option linter.unusedSimpArgs false
attribute [local go_sem ↓] Go.wp_at_zero Go.wp_at_succ

theorem below_dN {B : Nat} {a w : World} (h : Below B a w) (n : Nat) : Below B a (w.drewN n) := ⟨h.os, h.tape, h.output, h.size, h.block⟩
theorem flat_at {α : Type} (f : α → List Value) (n : Nat) (hn : ∀ x, (f x).length = n) : ∀ (l : List α) (q j : Nat) (x : α) (v : Value), l[q]? = some x → (f x)[j]? = some v → (l.flatMap f)[q * n + j]? = some v
  | [], q, j, x, v, h, _ => by simp at h
  | y :: r, 0, j, x, v, h, hv => by
    obtain rfl : y = x := by simpa using h
    have hj := (List.getElem?_eq_some_iff.1 hv).1
    rw [List.flatMap_cons, List.getElem?_append_left (by omega), Nat.zero_mul, Nat.zero_add]
    exact hv
  | y :: r, q + 1, j, x, v, h, hv => by
    rw [List.flatMap_cons, List.getElem?_append_right (by rw [hn, Nat.succ_mul]; omega), hn, show (q + 1) * n + j - n = q * n + j by rw [Nat.succ_mul]; omega]
    exact flat_at f n hn r q j x v (by simpa using h) hv
theorem slice_of {w : World} {B e s n : Nat} {v : Value} {xs : List Value} (h : w.ownsRow B e s v n xs) : ∃ a c, v = .slice a n c := by
  rcases h.2 with ⟨rfl, h0⟩ | ⟨g, cap, cur, rfl, _⟩
  · exact ⟨none, 0, by rw [h0]⟩
  · exact ⟨_, _, rfl⟩
/-- A node of a row. -/
theorem nd_cell {w : World} {B g cap : Nat} {T : List Nd} (h : w.ownsRow B 32 7 (.slice (some ⟨g, 0, none⟩) T.length cap) T.length (T.flatMap Nd.cs)) {q j : Nat} {x : Nd} {v : Value} (hx : T[q]? = some x) (hv : x.cs[j]? = some v) : w.cell? ⟨g, q * 7 + j, none⟩ = some v :=
  cell_n h (flat_at Nd.cs 7 (fun _ => rfl) T q j x v hx hv)
theorem ch_cell {w : World} {B g cap : Nat} {C : List ChT} (h : w.ownsRow B 82 4 (.slice (some ⟨g, 0, none⟩) C.length cap) C.length (chCs C)) {q j : Nat} {x : ChT} {v : Value} (hx : C[q]? = some x) (hv : x.cells[j]? = some v) : w.cell? ⟨g, q * 4 + j, none⟩ = some v :=
  cell_n h (flat_at ChT.cells 4 (fun _ => rfl) C q j x v hx hv)
theorem filter_at {α : Type} (f : α → Bool) (l : List α) (q : Nat) (x : α) (h : l[q]? = some x) (hf : f x = true) : (l.filter f)[((l.take q).filter f).length]? = some x := by
  have hq := (List.getElem?_eq_some_iff.1 h).1
  have e : l = l.take q ++ x :: l.drop (q + 1) := by
    conv => lhs; rw [← List.take_append_drop q l, List.drop_eq_getElem_cons hq]
    congr 2
    exact (List.getElem?_eq_some_iff.1 h).2
  conv => lhs; rw [e]
  have hl : ((l.take q ++ x :: l.drop (q + 1)).take q) = l.take q := by rw [← e]
  rw [hl, List.filter_append, List.filter_cons, if_pos hf, List.getElem?_append_right (Nat.le_refl _), Nat.sub_self]
  rfl
theorem filter_next {α : Type} (f : α → Bool) (l : List α) (q : Nat) (x : α) (h : l[q]? = some x) : ((l.take (q + 1)).filter f).length = ((l.take q).filter f).length + (if f x = true then 1 else 0) := by
  rw [List.take_add_one, h, List.filter_append, List.length_append]
  cases hf : f x <;> simp [hf]
theorem fin_gone {T : List Nd} {s : Int} {q : Nat} {x : Nd} (hx : T[q]? = some x) (hs : 0 < s) (ho : x.o = s) : (finC T s)[(finC (T.take q) s).length]? = some ⟨3, x.p, ⟨#[]⟩, x.v⟩ ∧ (finC (T.take (q + 1)) s).length = (finC (T.take q) s).length + 1 ∧ (finT (T.take (q + 1)) s).length = (finT (T.take q) s).length := by
  unfold finC finT
  rw [if_neg (by omega), if_neg (by omega), if_neg (by omega), if_neg (by omega), if_neg (by omega)]
  unfold endC endT
  refine ⟨?_, ?_, ?_⟩
  · rw [List.length_map, List.getElem?_map, filter_at _ T q x hx (by simpa using ho)]
    rfl
  · rw [List.length_map, List.length_map, filter_next _ T q x hx, if_pos (by simpa using ho)]
  · rw [filter_next _ T q x hx, if_neg (by simpa using ho)]
    rfl
theorem fin_stay {T : List Nd} {s : Int} {q : Nat} {x : Nd} (hx : T[q]? = some x) (hs : ¬ (x.o = s ∧ 0 < s)) : (finT T s)[(finT (T.take q) s).length]? = some x ∧ (finC (T.take (q + 1)) s).length = (finC (T.take q) s).length ∧ (finT (T.take (q + 1)) s).length = (finT (T.take q) s).length + 1 := by
  have hq := (List.getElem?_eq_some_iff.1 hx).1
  unfold finC finT
  by_cases h1 : s < 1
  · rw [if_pos h1, if_pos h1, if_pos h1, if_pos h1, if_pos h1, List.length_take, List.length_take]
    refine ⟨?_, rfl, by omega⟩
    rw [Nat.min_eq_left (by omega)]
    exact hx
  · have ho : x.o ≠ s := fun e => hs ⟨e, by omega⟩
    rw [if_neg h1, if_neg h1, if_neg h1, if_neg h1, if_neg h1]
    unfold endC endT
    refine ⟨filter_at _ T q x hx (by simpa using ho), ?_, ?_⟩
    · rw [List.length_map, List.length_map, filter_next _ T q x hx, if_neg (by simpa using ho)]
      rfl
    · rw [filter_next _ T q x hx, if_pos (by simpa using ho)]
theorem fin_again (T : List Nd) (s : Int) : finC (finT T s) s = [] := by
  unfold finC finT
  by_cases h1 : s < 1
  · rw [if_pos h1]
  · rw [if_neg h1, if_neg h1]
    unfold endC endT
    rw [List.map_eq_nil_iff, List.filter_filter, List.filter_eq_nil_iff]
    intro x _
    simp
theorem finC_len (T : List Nd) (s : Int) : (finC T s).length ≤ T.length := by
  unfold finC
  split
  · exact Nat.zero_le _
  · unfold endC
    rw [List.length_map]
    exact List.length_filter_le _ _
theorem finT_len (T : List Nd) (s : Int) : (finT T s).length ≤ T.length := by
  unfold finT
  split
  · exact Nat.le_refl _
  · exact List.length_filter_le _ _

end Go.Proofs.YtliafokjdngejabGreatDoor
namespace Go.Proofs.YtliafokjdngejabGreatDoor
open Go.RowKit Go.Maps Go.WideShapes
set_option linter.unusedVariables false
set_option linter.unusedSimpArgs false
attribute [local go_sem ↓] Go.wp_at_zero Go.wp_at_succ

theorem ordL_pre : ∀ (s t : List UInt8), t ≠ [] → ordL s (s ++ t) = -1
  | [], [], h => absurd rfl h
  | [], _ :: _, _ => rfl
  | x :: r, t, h => by
    show ordL (x :: r) (x :: (r ++ t)) = -1
    unfold ordL
    rw [if_pos rfl]
    exact ordL_pre r t h
theorem par_pre {p : ByteArray} (hp : (parse p).1 = 0) (hr : p ≠ pRt) : ∃ t, t ≠ [] ∧ p.data.toList = (parB p).data.toList ++ t := by
  obtain ⟨xs, k, x, hx, hl, hk, _⟩ := names_of hp hr
  have hne : xs ≠ [] := fun e => by rw [e] at hl; simp at hl
  have hxs : xs = xs.take k ++ [x] := by
    have := List.take_add_one (l := xs) (i := k)
    rw [hk, ← hl, List.take_length] at this
    exact this
  have ht : p.data.toList = flatN (xs.take k) ++ 47 :: x.data.toList := by
    rw [← parse_back hx, placeB, if_neg hne, data_mk]
    conv => lhs; rw [hxs]
    simp [flatN]
  have hx0 : x.data.toList ≠ [] := fun e => by
    have hall := (parse_len hx).2
    rw [List.all_eq_true] at hall
    have h9 := hall x (List.mem_of_getElem? hk)
    have : x.size = 0 := by have h8 := congrArg List.length e; simpa using h8
    simp [isNm, this] at h9
  rw [par_of (x := x) hx hl]
  by_cases h0 : xs.take k = []
  · refine ⟨x.data.toList, hx0, ?_⟩
    rw [ht, h0, placeB, if_pos rfl, data_mk]
    rfl
  · refine ⟨47 :: x.data.toList, by simp, ?_⟩
    rw [ht, placeB, if_neg h0, data_mk]
theorem par_less {p : ByteArray} (hp : (parse p).1 = 0) (hr : p ≠ pRt) : O (parB p) p = -1 := by
  obtain ⟨t, h0, h1⟩ := par_pre hp hr
  rw [O_list, h1]
  exact ordL_pre _ _ h0
theorem root_less {p : ByteArray} (hp : (parse p).1 = 0) (hr : p ≠ pRt) : O pRt p = -1 := by
  obtain ⟨xs, k, x, hx, hl, hk, _⟩ := names_of hp hr
  have hne : xs ≠ [] := fun e => by rw [e] at hl; simp at hl
  obtain ⟨y, r, rfl⟩ : ∃ y r, xs = y :: r := by cases xs with | nil => exact absurd rfl hne | cons y r => exact ⟨y, r, rfl⟩
  have hy0 : y.data.toList ≠ [] := fun e => by
    have hall := (parse_len hx).2
    rw [List.all_eq_true] at hall
    have h9 := hall y List.mem_cons_self
    have : y.size = 0 := by have h8 := congrArg List.length e; simpa using h8
    simp [isNm, this] at h9
  have ht : p.data.toList = [47] ++ (y.data.toList ++ flatN r) := by
    rw [← parse_back hx, placeB, if_neg hne, data_mk]
    simp [flatN]
  rw [O_list, ht]
  exact ordL_pre [47] _ (by simp [hy0])
theorem Snd.first {T : List Nd} (h : Snd T) : ∃ r, T[0]? = some r ∧ r.p = pRt ∧ r.o = 0 := by
  obtain ⟨r, hr, hp, ho⟩ := h.root
  cases T with
  | nil => cases hr
  | cons x U =>
    refine ⟨x, rfl, ?_⟩
    rcases List.mem_cons.1 hr with rfl | hr
    · exact ⟨hp, ho⟩
    · exfalso
      have h1 := (List.pairwise_cons.1 h.inv.srt).1 r hr
      rw [hp] at h1
      by_cases hx : x.p = pRt
      · rw [hx, O_self] at h1
        cases h1
      · have h2 := root_less (h.inv.nd x List.mem_cons_self).1 hx
        rw [O_anti x.p pRt, h1] at h2
        cases h2
theorem Snd.above {T : List Nd} (h : Snd T) {i : Nat} {x : Nd} (hi : 0 < i) (hx : T[i]? = some x) : x.p ≠ pRt ∧ ∃ k u, k < i ∧ T[k]? = some u ∧ u.p = parB x.p ∧ u.o = 0 := by
  have hil := (List.getElem?_eq_some_iff.1 hx).1
  have hxm := List.mem_of_getElem? hx
  obtain ⟨r, hr0, hrp, _⟩ := h.first
  have hlt : ∀ {j k : Nat} {y z : Nd}, T[j]? = some y → T[k]? = some z → j < k → O y.p z.p = -1 := fun {j k y z} hy hz hjk => by
    obtain ⟨hj, e1⟩ := List.getElem?_eq_some_iff.1 hy
    obtain ⟨hk, e2⟩ := List.getElem?_eq_some_iff.1 hz
    have := List.pairwise_iff_getElem.1 h.inv.srt j k hj hk hjk
    rw [e1, e2] at this
    exact this
  have hxr : x.p ≠ pRt := fun e => by
    have := hlt hr0 hx hi
    rw [hrp, e, O_self] at this
    cases this
  refine ⟨hxr, ?_⟩
  obtain ⟨u, hu, hup, huo⟩ := h.up x hxm hxr
  obtain ⟨k, hk⟩ := List.mem_iff_getElem?.1 hu
  refine ⟨k, u, ?_, hk, hup, huo⟩
  have h1 := par_less (h.inv.nd x hxm).1 hxr
  rcases Nat.lt_trichotomy k i with hki | hki | hki
  · exact hki
  · subst hki
    rw [hx] at hk
    obtain rfl := Option.some.inj hk
    rw [← hup, O_self] at h1
    cases h1
  · have h2 := hlt hx hk hki
    rw [hup] at h2
    rw [O_anti x.p (parB x.p), h2] at h1
    cases h1
theorem Snd.order {T : List Nd} (h : Snd T) {i : Nat} {x y : Nd} (hy : T[i]? = some y) (hx : T[i + 1]? = some x) : O y.p x.p = -1 := by
  obtain ⟨hj, e1⟩ := List.getElem?_eq_some_iff.1 hy
  obtain ⟨hk, e2⟩ := List.getElem?_eq_some_iff.1 hx
  have := List.pairwise_iff_getElem.1 h.inv.srt i (i + 1) hj hk (by omega)
  rw [e1, e2] at this
  exact this
theorem parC_zero {p : ByteArray} (hp : (parse p).1 = 0) (hr : p ≠ pRt) : parC p = 0 := by
  obtain ⟨xs, k, x, hx, hl, _, _⟩ := names_of hp hr
  unfold parC
  rw [hx, if_pos rfl, if_neg (fun e => by rw [show xs = [] from e] at hl; simp at hl)]
theorem numT_any (e0 : Int) (w : World) : Calls Tryz.prog 11 #[.int .i64 e0] w fun e w' => e = .returned (.int .i64 e0) ∧ w' = w := by
  go_enter Tryz.func11, Tryz.ntmps11
  go_wp2
  go_ret
  exact ⟨rfl, rfl⟩
/-- Is one of the first ones there, and not brief? -/
def thereB (T : List Nd) (p : ByteArray) : Bool := T.any (fun y => decide (y.p = p) && decide (y.o = 0))
theorem there_snoc {T : List Nd} {p : ByteArray} {q : Nat} {x : Nd} (hx : T[q]? = some x) : thereB (T.take (q + 1)) p = (thereB (T.take q) p || (decide (x.p = p) && decide (x.o = 0))) := by
  unfold thereB
  rw [List.take_add_one, hx, List.any_append]
  simp
theorem there_of {T : List Nd} {p : ByteArray} {q k : Nat} {u : Nd} (hk : k < q) (hu : T[k]? = some u) (hp : u.p = p) (ho : u.o = 0) : thereB (T.take q) p = true := by
  unfold thereB
  rw [List.any_eq_true]
  refine ⟨u, List.mem_of_getElem? (i := k) (by rw [List.getElem?_take, if_pos hk]; exact hu), by simp [hp, ho]⟩
end Go.Proofs.YtliafokjdngejabGreatDoor
