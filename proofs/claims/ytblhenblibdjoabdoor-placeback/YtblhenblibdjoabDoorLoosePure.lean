/-
  A place that is laid out loosely, and what Clean makes of it.
-/
import Derived.Test.YtblhenblibdjoabDoorClean
import Derived.Test.YtblhenblibdjoabDoorWay
namespace Go.Proofs.YtblhenblibdjoabDoor
open Go.RowKit

def decor (m : Int) : List UInt8 :=
  if m = 1 then [47] else if m = 2 then [46, 47] else if m = 3 then [103, 111, 110, 101, 47, 46, 46, 47] else if m = 4 then [103, 47, 46, 47, 47, 104, 47, 46, 46, 47, 46, 47, 46, 46, 47] else []
def dps (m : Int) : List (List UInt8) :=
  if m = 1 then [[]] else if m = 2 then [[46]] else if m = 3 then [[103, 111, 110, 101], [46, 46]] else if m = 4 then [[103], [46], [], [104], [46, 46], [46], [46, 46]] else []

theorem decor_len (m : Int) : (decor m).length ≤ 15 := by
  unfold decor
  split
  · decide
  · split
    · decide
    · split
      · decide
      · split
        · decide
        · decide

theorem cut_decor (m : Int) (t : List UInt8) : cutL (decor m ++ t) = dps m ++ cutL t := by
  unfold decor dps
  split
  · simp [cutL]
  · split
    · simp [cutL, consHead]
    · split
      · simp [cutL, consHead]
      · split
        · simp [cutL, consHead]
        · simp

theorem step_push {p : ByteArray} {st : List ByteArray} (h : isNm p = true) : step p st = some (st ++ [p]) := by
  have h' := h
  simp only [isNm, Bool.and_eq_true, decide_eq_true_eq, Bool.not_eq_true'] at h'
  have e1 : isE p = false := by
    unfold isE
    rw [beq_eq_false_iff_ne]
    exact nm_nonempty h
  have e2 : isD p = false := h'.1.1.2
  have e3 : isDD p = false := h'.1.2
  simp [step, e1, e2, e3, h]
theorem step_pop (st : List ByteArray) (p : ByteArray) : step (mk [46, 46]) (st ++ [p]) = some st := by
  simp [step, isE, isD, isDD, mk]
theorem step_dot (st : List ByteArray) : step (mk [46]) st = some st := by
  simp [step, isE, isD, mk]
theorem step_emp (st : List ByteArray) : step (mk []) st = some st := by
  simp [step, isE, mk]
theorem cleanL_cons {p : ByteArray} {ps st st' : List ByteArray} (h : step p st = some st') : cleanL (p :: ps) st = cleanL ps st' := by
  rw [cleanL, h]

theorem clean_dps (m : Int) (ps st : List ByteArray) : cleanL ((dps m).map mk ++ ps) st = cleanL ps st := by
  unfold dps
  split
  · exact cleanL_cons (step_emp st)
  · split
    · exact cleanL_cons (step_dot st)
    · split
      · refine (cleanL_cons (step_push (by decide))).trans ?_
        exact cleanL_cons (step_pop st _)
      · split
        · refine (cleanL_cons (step_push (by decide))).trans ?_
          refine (cleanL_cons (step_dot _)).trans ?_
          refine (cleanL_cons (step_emp _)).trans ?_
          refine (cleanL_cons (step_push (by decide))).trans ?_
          refine (cleanL_cons (step_pop _ _)).trans ?_
          refine (cleanL_cons (step_dot _)).trans ?_
          exact cleanL_cons (step_pop st _)
        · rfl

/-- The text from name i on, behind its slash. -/
def looseR (ms : List Int) : List ByteArray → Nat → List UInt8
  | [], i => decor (ms.getD i 0)
  | x :: r, i => decor (ms.getD i 0) ++ (x.data.toList ++ 47 :: looseR ms r (i + 1))

theorem clean_looseR (ms : List Int) : ∀ (xs : List ByteArray) (i : Nat) (st : List ByteArray), xs.all isNm = true → cleanL ((cutL (looseR ms xs i)).map mk) st = some (st ++ xs)
  | [], i, st, _ => by
    have e : looseR ms [] i = decor (ms.getD i 0) ++ [] := by rw [List.append_nil]; rfl
    rw [e, cut_decor, List.map_append, clean_dps]
    show cleanL [mk []] st = _
    rw [cleanL_cons (step_emp st), List.append_nil]
    rfl
  | x :: r, i, st, h => by
    rw [List.all_cons, Bool.and_eq_true] at h
    rw [looseR, cut_decor, List.map_append, clean_dps, cutL_pre _ _ (nm_noslash h.1), List.map_cons, mk_data, cleanL_cons (step_push h.1), clean_looseR ms r (i + 1) (st ++ [x]) h.2, List.append_assoc]
    rfl

theorem looseR_len (ms : List Int) : ∀ (xs : List ByteArray) (i : Nat), xs.all isNm = true → (looseR ms xs i).length ≤ 32 * xs.length + 15
  | [], i, _ => by
    have := decor_len (ms.getD i 0)
    simpa [looseR] using this
  | x :: r, i, h => by
    rw [List.all_cons, Bool.and_eq_true] at h
    have ih := looseR_len ms r (i + 1) h.2
    have hd := decor_len (ms.getD i 0)
    have hx : x.size ≤ 16 := by
      have := h.1
      simp only [isNm, Bool.and_eq_true, decide_eq_true_eq] at this
      exact this.1.1.1.2
    have hxl : x.data.toList.length = x.size := by simp
    rw [looseR]
    simp only [List.length_append, List.length_cons]
    omega

theorem clean_loose {ms : List Int} {xs : List ByteArray} (hN : xs.length ≤ 6) (hall : xs.all isNm = true) : clean (mk (47 :: looseR ms xs 0)) = (0, placeB xs) := by
  have hl := looseR_len ms xs 0 hall
  have h0 : ¬ 65536 < (mk (47 :: looseR ms xs 0)).size := by rw [size_mk]; simp; omega
  rw [clean_yes h0 (data_mk _), cutB_mk, clean_looseR ms xs 0 [] hall]
  simp only [List.nil_append]
  rw [if_neg (by omega)]

theorem cleanL_names : ∀ (xs st : List ByteArray), xs.all isNm = true → cleanL xs st = some (st ++ xs)
  | [], st, _ => by rw [List.append_nil]; rfl
  | x :: r, st, h => by
    rw [List.all_cons, Bool.and_eq_true] at h
    rw [cleanL_cons (step_push h.1), cleanL_names r (st ++ [x]) h.2, List.append_assoc]
    rfl
theorem clean_place {xs : List ByteArray} (hN : xs.length ≤ 6) (hall : xs.all isNm = true) : clean (placeB xs) = (0, placeB xs) := by
  have hfl := flat_len xs hall
  cases xs with
  | nil => rfl
  | cons x r =>
    have hall' := hall
    rw [List.all_cons, Bool.and_eq_true] at hall'
    have hp : placeB (x :: r) = mk (flatN (x :: r)) := by rw [placeB, if_neg (by simp)]
    have e : flatN (x :: r) = 47 :: (x.data.toList ++ flatN r) := by simp [flatN]
    have hd : (placeB (x :: r)).data.toList = 47 :: (x.data.toList ++ flatN r) := by rw [hp, data_mk, e]
    have h0 : ¬ 65536 < (placeB (x :: r)).size := by
      rw [hp, size_mk]
      omega
    rw [clean_yes h0 hd, cutB_mk, cut_flat x r hall'.1 hall'.2, cleanL_names _ _ hall]
    simp only [List.nil_append]
    rw [if_neg (by omega)]

theorem cleanL_all : ∀ (ps st st' : List ByteArray), st.all isNm = true → cleanL ps st = some st' → st'.all isNm = true
  | [], st, st', h, e => by
    have : st = st' := Option.some.inj e
    rw [← this]
    exact h
  | p :: ps, st, st', h, e => by
    rw [cleanL] at e
    cases hs : step p st with
    | none => rw [hs] at e; cases e
    | some st1 =>
      rw [hs] at e
      refine cleanL_all ps st1 st' ?_ e
      unfold step at hs
      split at hs
      · rw [← Option.some.inj hs]; exact h
      · split at hs
        · split at hs
          · cases hs
          · rw [← Option.some.inj hs]; exact all_dropLast h
        · split at hs
          · rename_i hn
            rw [← Option.some.inj hs, List.all_append, h]
            simp [hn]
          · cases hs

/-- What Clean answers: an error and nothing, or a place. -/
theorem clean_cases (s : ByteArray) : (∃ F : Int, F ≠ 0 ∧ clean s = (F, ⟨#[]⟩)) ∨ ∃ st : List ByteArray, st.length ≤ 6 ∧ st.all isNm = true ∧ clean s = (0, placeB st) := by
  by_cases h0 : 65536 < s.size
  · exact .inl ⟨2, by decide, by rw [clean, if_pos h0]⟩
  by_cases h2 : ∃ l, s.data.toList = 47 :: l
  · obtain ⟨l, hl⟩ := h2
    have hc := clean_yes h0 hl
    cases hs : cleanL (cutB (mk l)) [] with
    | none => rw [hs] at hc; exact .inl ⟨10, by decide, hc⟩
    | some st =>
      rw [hs] at hc
      simp only at hc
      by_cases h6 : 6 < st.length
      · rw [if_pos h6] at hc; exact .inl ⟨10, by decide, hc⟩
      · rw [if_neg h6] at hc; exact .inr ⟨st, by omega, cleanL_all _ _ _ rfl hs, hc⟩
  · exact .inl ⟨10, by decide, clean_no h0 (fun l e => h2 ⟨l, e⟩)⟩
end Go.Proofs.YtblhenblibdjoabDoor
