/-
  trie: watches in their order; lists with one more and with one less.
-/
import Derived.Test.YtcoicoijllpgnaaGreatDoorXBase
namespace Go.Proofs.YtcoicoijllpgnaaGreatDoor
open Go.RowKit Go.Maps
set_option linter.unusedVariables false
set_option linter.unusedSimpArgs false

/-- A watch that is held: where it lies, its session, and the watch. -/
structure He where
  b : Nat
  s : Int
  i : Int
  p : ByteArray
  k : Int
  f : Int
abbrev He.ptr (h : He) : Value := .pointer (some ⟨h.b, 0, none⟩)
abbrev He.cs (h : He) : List Value := [.int .i64 h.s, .int .i64 h.i, .string h.p, .int .i64 h.k, .int .i64 h.f]
def ptrs (l : List He) : List Value := l.map He.ptr
theorem ptrs_len (l : List He) : (ptrs l).length = l.length := by simp [ptrs]
theorem ptrs_at {l : List He} {i : Nat} {h : He} (hi : l[i]? = some h) : (ptrs l)[i]? = some h.ptr := by simp [ptrs, hi]
theorem ptrs_append (l m : List He) : ptrs (l ++ m) = ptrs l ++ ptrs m := by simp [ptrs]
theorem ptrs_one (l : List He) (v : Value) (h : v ∈ ptrs l) : v.oneCell' = true := by
  obtain ⟨x, _, rfl⟩ := List.mem_map.1 h
  rfl
/-- What cmp.Compare says. -/
def cmpI (x y : Int) : Int := if x < y then -1 else if y < x then 1 else 0
/-- What the order of tags says. -/
def ctI (s i s' i' : Int) : Int := if cmpI s s' = 0 then cmpI i i' else cmpI s s'
def befB (s i s' i' : Int) : Bool := decide (s < s') || (decide (s = s') && decide (i < i'))
theorem ct_neg (s i s' i' : Int) : ctI s i s' i' < 0 ↔ befB s i s' i' = true := by
  unfold ctI cmpI befB
  simp only [Bool.or_eq_true, Bool.and_eq_true, decide_eq_true_eq]
  repeat' split
  all_goals omega
theorem ct_zero (s i s' i' : Int) : ctI s i s' i' = 0 ↔ (s = s' ∧ i = i') := by
  unfold ctI cmpI
  repeat' split
  all_goals omega
theorem ct_range (s i s' i' : Int) : ctI s i s' i' = -1 ∨ ctI s i s' i' = 0 ∨ ctI s i s' i' = 1 := by
  unfold ctI cmpI
  repeat' split
  all_goals omega
theorem bef_trans {a b c d e f : Int} (h : befB a b c d = true) (g : befB c d e f = true) : befB a b e f = true := by
  unfold befB at *
  simp only [Bool.or_eq_true, Bool.and_eq_true, decide_eq_true_eq] at *
  omega
theorem bef_irr (a b : Int) : befB a b a b = false := by
  unfold befB
  simp
theorem bef_asymm {a b c d : Int} (h : befB a b c d = true) : befB c d a b = false := by
  cases g : befB c d a b with
  | false => rfl
  | true =>
    have e := bef_trans h g
    rw [bef_irr] at e
    cases e
theorem bef_total {a b c d : Int} (h : befB a b c d = false) (hne : ¬ (a = c ∧ b = d)) : befB c d a b = true := by
  unfold befB at *
  simp only [Bool.or_eq_false_iff, Bool.and_eq_false_iff, decide_eq_false_iff_not, Bool.or_eq_true, Bool.and_eq_true, decide_eq_true_eq] at *
  omega
abbrev befH (a b : He) : Bool := befB a.s a.i b.s b.i
/-- By sessions, then ids; each once. -/
def Ord (l : List He) : Prop := l.Pairwise (fun a b => befH a b = true)
theorem Ord.filter {l : List He} (h : Ord l) (f : He → Bool) : Ord (l.filter f) := List.Pairwise.filter _ h
theorem Ord.key {l : List He} (h : Ord l) {x y : He} (hx : x ∈ l) (hy : y ∈ l) (hs : x.s = y.s) (hi : x.i = y.i) : x = y := by
  induction l with
  | nil => cases hx
  | cons a r ih =>
    have h1 := List.pairwise_cons.1 h
    rcases List.mem_cons.1 hx with rfl | hx'
    · rcases List.mem_cons.1 hy with rfl | hy'
      · rfl
      · have := h1.1 y hy'
        rw [befH, hs, hi, bef_irr] at this
        cases this
    · rcases List.mem_cons.1 hy with rfl | hy'
      · have := h1.1 x hx'
        rw [befH, hs, hi, bef_irr] at this
        cases this
      · exact ih h1.2 hx' hy'
/-- A list that says true first and false then. -/
theorem split_filter {α : Type} (P : α → Bool) : ∀ (l : List α) (n : Nat), (∀ q x, q < n → l[q]? = some x → P x = true) → (∀ q x, n ≤ q → l[q]? = some x → P x = false) → l.take n = l.filter P ∧ l.drop n = l.filter (fun x => !P x)
  | [], n, _, _ => by simp
  | a :: r, 0, h1, h2 => by
    have hf : ∀ x ∈ a :: r, P x = false := fun x hx => by
      obtain ⟨q, hq⟩ := List.getElem?_of_mem hx
      exact h2 q x (Nat.zero_le _) hq
    refine ⟨?_, ?_⟩
    · rw [List.take_zero, eq_comm, List.filter_eq_nil_iff]
      intro x hx
      rw [hf x hx]
      simp
    · rw [List.drop_zero, eq_comm, List.filter_eq_self]
      intro x hx
      rw [hf x hx]
      rfl
  | a :: r, n + 1, h1, h2 => by
    have ha := h1 0 a (Nat.succ_pos _) rfl
    obtain ⟨e1, e2⟩ := split_filter P r n (fun q x hq hx => h1 (q + 1) x (by omega) hx) (fun q x hq hx => h2 (q + 1) x (by omega) hx)
    refine ⟨?_, ?_⟩
    · rw [List.take_succ_cons, e1, List.filter_cons, if_pos ha]
    · rw [List.drop_succ_cons, e2, List.filter_cons, ha]
      rfl
/-- One more, at its place. -/
def insH (h : He) (l : List He) : List He := l.filter (fun x => befH x h) ++ h :: l.filter (fun x => !befH x h)
theorem ins_at {l : List He} {h : He} {n : Nat} (h1 : ∀ q x, q < n → l[q]? = some x → befH x h = true) (h2 : ∀ q x, n ≤ q → l[q]? = some x → befH x h = false) : l.take n ++ h :: l.drop n = insH h l := by
  obtain ⟨e1, e2⟩ := split_filter (fun x => befH x h) l n h1 h2
  rw [e1, e2]
  rfl
theorem ins_len (h : He) (l : List He) : (insH h l).length = l.length + 1 := by
  have h1 : (l.filter (fun x => befH x h)).length + (l.filter (fun x => !befH x h)).length = l.length := by
    induction l with
    | nil => rfl
    | cons a r ih =>
      cases e : befH a h
      · simp only [List.filter_cons, e]; simp; omega
      · simp only [List.filter_cons, e]; simp; omega
  unfold insH
  rw [List.length_append, List.length_cons]
  omega
theorem ins_mem {h x : He} {l : List He} : x ∈ insH h l ↔ x = h ∨ x ∈ l := by
  unfold insH
  rw [List.mem_append, List.mem_cons, List.mem_filter, List.mem_filter]
  cases befH x h
  · simp
  · simp
    exact Or.comm
theorem parts_all {l : List He} (ho : Ord l) (h : He) : l.filter (fun x => befH x h) ++ l.filter (fun x => !befH x h) = l := by
  induction l with
  | nil => rfl
  | cons a r ih =>
    have h1 := List.pairwise_cons.1 ho
    cases e : befH a h
    · have hn : r.filter (fun x => befH x h) = [] := by
        rw [List.filter_eq_nil_iff]
        intro x hx hb
        have e2 : befH a h = true := bef_trans (h1.1 x hx) hb
        rw [e2] at e
        cases e
      have := ih h1.2
      rw [hn, List.nil_append] at this
      simp only [List.filter_cons, e, hn, this]
      simp
    · have := ih h1.2
      simp only [List.filter_cons, e]
      simp only [Bool.not_true]
      simp
      simpa using this
theorem ins_filter (f : He → Bool) (h : He) {l : List He} (ho : Ord l) : (insH h l).filter f = if f h then insH h (l.filter f) else l.filter f := by
  have e : ∀ g : He → Bool, (l.filter g).filter f = (l.filter f).filter g := fun g => by
    rw [List.filter_filter, List.filter_filter]
    congr 1
    funext x
    exact Bool.and_comm _ _
  unfold insH
  rw [List.filter_append, List.filter_cons, e, e]
  split
  · rfl
  · exact parts_all (ho.filter f) h
theorem ins_ord {h : He} {l : List He} (ho : Ord l) (hn : ∀ x ∈ l, ¬ (x.s = h.s ∧ x.i = h.i)) : Ord (insH h l) := by
  unfold insH Ord
  rw [List.pairwise_append, List.pairwise_cons]
  refine ⟨ho.filter _, ⟨fun x hx => ?_, ho.filter _⟩, fun x hx y hy => ?_⟩
  · obtain ⟨h1, h2⟩ := List.mem_filter.1 hx
    exact bef_total (by simpa using h2) (hn x h1)
  · have h1 := (List.mem_filter.1 hx).2
    rcases List.mem_cons.1 hy with rfl | hy
    · exact h1
    · obtain ⟨h3, h2⟩ := List.mem_filter.1 hy
      exact bef_trans h1 (bef_total (by simpa using h2) (hn y h3))
theorem ins_new {h : He} {l : List He} (hl : l = []) : insH h l = [h] := by subst hl; rfl
/-- One less. -/
def delH (s i : Int) (l : List He) : List He := l.filter (fun x => !(decide (x.s = s) && decide (x.i = i)))
theorem del_mem {s i : Int} {l : List He} {x : He} : x ∈ delH s i l ↔ x ∈ l ∧ ¬ (x.s = s ∧ x.i = i) := by
  unfold delH
  rw [List.mem_filter]
  simp
  intro _
  omega
theorem del_filter (s i : Int) (f : He → Bool) (l : List He) : (delH s i l).filter f = delH s i (l.filter f) := by
  unfold delH
  rw [List.filter_filter, List.filter_filter]
  congr 1
  funext x
  exact Bool.and_comm _ _
theorem del_ord {s i : Int} {l : List He} (h : Ord l) : Ord (delH s i l) := h.filter _
theorem del_none {s i : Int} {l : List He} (h : ∀ x ∈ l, ¬ (x.s = s ∧ x.i = i)) : delH s i l = l := by
  unfold delH
  rw [List.filter_eq_self]
  intro x hx
  have := h x hx
  simp
  omega
theorem del_at : ∀ {l : List He} {h : He} {n : Nat}, Ord l → l[n]? = some h → l.take n ++ l.drop (n + 1) = delH h.s h.i l
  | [], _, _, _, hn => by simp at hn
  | a :: r, h, 0, ho, hn => by
    have h1 := List.pairwise_cons.1 ho
    obtain rfl : a = h := by simpa using hn
    have h2 : delH a.s a.i r = r := del_none (fun x hx hc => by
      have := h1.1 x hx
      rw [befH, hc.1, hc.2, bef_irr] at this
      cases this)
    have e : delH a.s a.i (a :: r) = delH a.s a.i r := by simp [delH]
    rw [e, h2]
    rfl
  | a :: r, h, n + 1, ho, hn => by
    have h1 := List.pairwise_cons.1 ho
    have hr : r[n]? = some h := by simpa using hn
    have h2 := del_at h1.2 hr
    have h3 := h1.1 h (List.mem_of_getElem? hr)
    have e : delH h.s h.i (a :: r) = a :: delH h.s h.i r := by
      unfold delH
      rw [List.filter_cons, if_pos]
      have h4 : ¬ (a.s = h.s ∧ a.i = h.i) := fun hc => by
        rw [befH, hc.1, hc.2, bef_irr] at h3
        cases h3
      simp
      omega
    rw [e, ← h2]
    rfl
theorem del_len {l : List He} {h : He} (ho : Ord l) (hm : h ∈ l) : (delH h.s h.i l).length + 1 = l.length := by
  obtain ⟨n, hn⟩ := List.getElem?_of_mem hm
  have hl := (List.getElem?_eq_some_iff.1 hn).1
  rw [← del_at ho hn]
  simp
  omega
end Go.Proofs.YtcoicoijllpgnaaGreatDoor
