/-
  Places as lists of names: there and back; what is below what.
-/
import Derived.Test.YtbblckcjedjbcaaGreatDoorOf
namespace Go.Proofs.YtbblckcjedjbcaaGreatDoor
open Go.RowKit

theorem nm_noslash {x : ByteArray} (h : isNm x = true) : ∀ b ∈ x.data.toList, b ≠ 47 := by
  simp only [isNm, Bool.and_eq_true] at h
  have ha := h.2
  rw [List.all_eq_true] at ha
  intro b hb e
  have := ha b hb
  rw [e] at this
  exact absurd this (by decide)
theorem nm_nonempty {x : ByteArray} (h : isNm x = true) : x.data.toList ≠ [] := by
  simp only [isNm, Bool.and_eq_true, decide_eq_true_eq] at h
  intro e
  have : x.size = 0 := by simpa using congrArg List.length e
  have := h.1.1.1.1
  omega

theorem flat_cut : ∀ (l : List UInt8), (cutL l).flatMap (fun x => 47 :: x) = 47 :: l
  | [] => rfl
  | b :: l => by
    have ih := flat_cut l
    rw [cutL]
    by_cases h : b = 47
    · rw [if_pos h, List.flatMap_cons, ih, h]
      rfl
    · rw [if_neg h]
      cases hc : cutL l with
      | nil => exact absurd hc (cutL_ne l)
      | cons x xs =>
        rw [hc, List.flatMap_cons] at ih
        rw [consHead, List.flatMap_cons]
        simp only [List.cons_append, List.cons.injEq, true_and] at ih ⊢
        rw [ih]

theorem flatN_map (ls : List (List UInt8)) : flatN (ls.map mk) = ls.flatMap (fun x => 47 :: x) := by
  unfold flatN
  rw [List.flatMap_map]
  simp [data_mk]

theorem parse_back {s : ByteArray} {xs : List ByteArray} (h : parse s = (0, xs)) : placeB xs = s := by
  by_cases h0 : 102 < s.size
  · rw [parse_long h0] at h; cases h
  by_cases h1 : s.data.toList = [47]
  · rw [parse_root h1] at h
    cases h
    rw [placeB, if_pos rfl, ← h1, mk_data]
  by_cases h2 : ∃ l, s.data.toList = 47 :: l
  · obtain ⟨l, hl⟩ := h2
    rw [parse_yes h0 h1 hl] at h
    split at h
    · cases h
      have hne : (cutL l).map mk ≠ [] := fun e => cutL_ne l (by simpa using e)
      rw [placeB, if_neg hne, flatN_map, flat_cut, ← hl, mk_data]
    · cases h
  · rw [parse_no h0 (fun l e => h2 ⟨l, e⟩)] at h; cases h

theorem cut_flat : ∀ (x : ByteArray) (xs : List ByteArray), isNm x = true → xs.all isNm = true → (cutL (x.data.toList ++ flatN xs)).map mk = x :: xs
  | x, [], hx, _ => by
    have e : flatN [] = [] := rfl
    rw [e, List.append_nil, cutL_all _ (nm_noslash hx)]
    simp [mk_data]
  | x, y :: r, hx, hr => by
    rw [List.all_cons, Bool.and_eq_true] at hr
    have e : flatN (y :: r) = 47 :: (y.data.toList ++ flatN r) := by simp [flatN]
    rw [e, cutL_pre _ _ (nm_noslash hx), List.map_cons, cut_flat y r hr.1 hr.2, mk_data]

theorem parse_place {xs : List ByteArray} (hN : xs.length ≤ 6) (hall : xs.all isNm = true) : parse (placeB xs) = (0, xs) := by
  cases xs with
  | nil => rfl
  | cons x r =>
    have hall' := hall
    rw [List.all_cons, Bool.and_eq_true] at hall'
    have hfl := flat_len _ hall
    have hp : placeB (x :: r) = mk (flatN (x :: r)) := by rw [placeB, if_neg (by simp)]
    have e : flatN (x :: r) = 47 :: (x.data.toList ++ flatN r) := by simp [flatN]
    have hd : (placeB (x :: r)).data.toList = 47 :: (x.data.toList ++ flatN r) := by rw [hp, data_mk, e]
    have h0 : ¬ 102 < (placeB (x :: r)).size := by
      rw [hp, size_mk]
      omega
    have h1 : ¬ (placeB (x :: r)).data.toList = [47] := by
      rw [hd]
      intro h
      have hx := nm_nonempty hall'.1
      simp only [List.cons.injEq, true_and, List.append_eq_nil_iff] at h
      exact hx h.1
    have hc := cut_flat x r hall'.1 hall'.2
    rw [parse_yes h0 h1 hd]
    have hlen : (cutL (x.data.toList ++ flatN r)).length = (x :: r).length := by rw [← hc, List.length_map]
    rw [hc, if_pos ⟨by rw [hlen]; exact hN, hall⟩]

/-- The first names of cs are ws, and there are more. -/
abbrev Bel (ws cs : List ByteArray) : Prop := ws.length < cs.length ∧ cs.take ws.length = ws

theorem pre_split : ∀ (a c : List UInt8) (r t : List UInt8), (∀ b ∈ a, b ≠ 47) → (∀ b ∈ c, b ≠ 47) → (t = [] ∨ ∃ t', t = 47 :: t') → (a ++ 47 :: r) <+: (c ++ t) → a = c ∧ (47 :: r) <+: t
  | [], [], r, t, _, _, _, h => ⟨rfl, h⟩
  | [], y :: c, r, t, _, hc, _, h => by
    obtain ⟨u, hu⟩ := h
    simp only [List.nil_append, List.cons_append, List.cons.injEq] at hu
    exact absurd hu.1.symm (hc y (by simp))
  | x :: a, [], r, t, ha, _, ht, h => by
    obtain ⟨u, hu⟩ := h
    rcases ht with rfl | ⟨t', rfl⟩
    · simp at hu
    · simp only [List.nil_append, List.cons_append, List.cons.injEq] at hu
      exact absurd hu.1 (ha x (by simp))
  | x :: a, y :: c, r, t, ha, hc, ht, h => by
    obtain ⟨u, hu⟩ := h
    simp only [List.cons_append, List.cons.injEq] at hu
    have := pre_split a c r t (fun b hb => ha b (by simp [hb])) (fun b hb => hc b (by simp [hb])) ht ⟨u, hu.2⟩
    exact ⟨by rw [hu.1, this.1], this.2⟩

theorem flat_head (xs : List ByteArray) : flatN xs = [] ∨ ∃ t', flatN xs = 47 :: t' := by
  cases xs with
  | nil => exact .inl rfl
  | cons x r => exact .inr ⟨x.data.toList ++ flatN r, by simp [flatN]⟩

theorem pre_bel : ∀ (ws cs : List ByteArray), ws.all isNm = true → cs.all isNm = true → ((flatN ws ++ [47]) <+: flatN cs ↔ Bel ws cs)
  | [], cs, _, _ => by
    constructor
    · rintro ⟨u, hu⟩
      cases cs with
      | nil => simp [flatN] at hu
      | cons c r => exact ⟨by simp, rfl⟩
    · rintro ⟨h, _⟩
      cases cs with
      | nil => simp at h
      | cons c r => exact ⟨c.data.toList ++ flatN r, by simp [flatN]⟩
  | x :: ws, [], _, _ => by
    constructor
    · rintro ⟨u, hu⟩
      simp [flatN] at hu
    · rintro ⟨h, _⟩
      simp at h
  | x :: ws, c :: cs, hw, hc => by
    rw [List.all_cons, Bool.and_eq_true] at hw hc
    have ih := pre_bel ws cs hw.2 hc.2
    have e1 : flatN (x :: ws) ++ [47] = 47 :: (x.data.toList ++ (flatN ws ++ [47])) := by simp [flatN]
    have e2 : flatN (c :: cs) = 47 :: (c.data.toList ++ flatN cs) := by simp [flatN]
    obtain ⟨r, hr⟩ : ∃ r, flatN ws ++ [47] = 47 :: r := by
      rcases flat_head ws with h | ⟨t, h⟩
      · exact ⟨[], by rw [h]; rfl⟩
      · exact ⟨t ++ [47], by rw [h]; rfl⟩
    rw [e1, e2, List.cons_prefix_cons]
    constructor
    · rintro ⟨_, h⟩
      rw [hr] at h
      obtain ⟨h1, h2⟩ := pre_split _ _ _ _ (nm_noslash hw.1) (nm_noslash hc.1) (flat_head cs) h
      rw [← hr, ih] at h2
      have hxc : x = c := by rw [← mk_data x, ← mk_data c, h1]
      exact ⟨by have := h2.1; simp; omega, by rw [hxc]; simp [h2.2]⟩
    · rintro ⟨h1, h2⟩
      simp only [List.length_cons, List.take_succ_cons, List.cons.injEq] at h1 h2
      have hb : Bel ws cs := ⟨by omega, h2.2⟩
      refine ⟨rfl, ?_⟩
      rw [h2.1]
      exact (List.prefix_append_right_inj _).2 (ih.2 hb)
end Go.Proofs.YtbblckcjedjbcaaGreatDoor
