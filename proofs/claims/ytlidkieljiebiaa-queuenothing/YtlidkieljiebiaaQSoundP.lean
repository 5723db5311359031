/-
  queue: what holds of the items at any time.
-/
import Derived.Test.YtlidkieljiebiaaQPut
import Derived.Test.YtlidkieljiebiaaQColl
import Derived.Test.YtlidkieljiebiaaQNext
import Derived.Test.YtlidkieljiebiaaQScript
namespace Go.Proofs.Ytlidkieljiebiaa
open Go.RowKit
set_option linter.unusedVariables false
set_option linter.unusedSimpArgs false

/-- An item says what one of its kind must say. -/
structure ItT.Good (t : ItT) : Prop where
  up : t.af < t.st
  ev : t.mark = false → t.cs ≠ [] ∧ t.ps = []
  ma : t.mark = true → t.cs = [] ∧ t.ps ≠ []
structure Snd (last : Nat) (l : List ItT) : Prop where
  each : ∀ t ∈ l, t.Good
  top : ∀ t ∈ l, t.st ≤ last
  next : ∀ i t u, l[i]? = some t → l[i + 1]? = some u → t.st ≤ u.af
  end_ : ∀ t, l[l.length - 1]? = some t → t.st = last
theorem Snd.nil (last : Nat) : Snd last [] := ⟨(fun t h => by cases h), (fun t h => by cases h), (fun i t u h => by simp at h), (fun t h => by simp at h)⟩
theorem Snd.put {last : Nat} {l : List ItT} {st : Int} {cs : List TgT} (h : Snd last l) (hs : (last : Int) < st) (hc : cs ≠ []) : Snd st.toNat (l ++ [⟨st, last, false, cs, []⟩]) := by
  refine ⟨fun t ht => ?_, fun t ht => ?_, fun i t u hi hu => ?_, fun t ht => ?_⟩
  · rcases List.mem_append.1 ht with ht | ht
    · exact h.each t ht
    · obtain rfl := List.mem_singleton.1 ht
      exact ⟨hs, fun _ => ⟨hc, rfl⟩, (fun e => by cases e)⟩
  · rcases List.mem_append.1 ht with ht | ht
    · have := h.top t ht
      omega
    · obtain rfl := List.mem_singleton.1 ht
      show st ≤ _
      omega
  · by_cases hl : i + 1 < l.length
    · rw [List.getElem?_append_left (by omega)] at hi hu
      exact h.next i t u hi hu
    · have hil : i < l.length := by
        have := (List.getElem?_eq_some_iff.1 hu).1
        simp at this
        omega
      rw [List.getElem?_append_left hil] at hi
      rw [List.getElem?_append_right (by omega)] at hu
      have h0 : i + 1 - l.length = 0 := by omega
      rw [h0] at hu
      have e : u = ⟨st, last, false, cs, []⟩ := by simpa using hu.symm
      subst e
      exact h.top t (List.mem_of_getElem? hi)
  · have e : l.length + 1 - 1 = l.length := by omega
    simp only [List.length_append, List.length_singleton, e] at ht
    rw [List.getElem?_append_right (Nat.le_refl _), Nat.sub_self] at ht
    have e : t = ⟨st, last, false, cs, []⟩ := by simpa using ht.symm
    subst e
    show st = _
    omega
theorem Snd.begin {room first last : Nat} {l : List ItT} (h : Snd last l) : QuT.begin ⟨room, first, last, l⟩ ≤ last := by
  unfold QuT.begin
  cases l with
  | nil => exact Int.le_refl _
  | cons e r =>
    have h1 := (h.each e (List.mem_cons_self ..)).up
    have h2 := h.top e (List.mem_cons_self ..)
    show e.af ≤ _
    omega
theorem Snd.coll {last : Nat} {l : List ItT} {st af : Int} {ps : List PaT} (h : Snd last l) (ha : af ≤ last) (hs : (last : Int) < st) (hp : ps ≠ []) : Snd st.toNat [⟨st, af, true, [], ps⟩] := by
  refine ⟨fun t ht => ?_, fun t ht => ?_, fun i t u hi hu => ?_, fun t ht => ?_⟩
  · obtain rfl := List.mem_singleton.1 ht
    exact ⟨(by show af < st; omega), (fun e => by cases e), fun _ => ⟨rfl, hp⟩⟩
  · obtain rfl := List.mem_singleton.1 ht
    show st ≤ _
    omega
  · have := (List.getElem?_eq_some_iff.1 hu).1
    simp at this
  · have e : t = ⟨st, af, true, [], ps⟩ := by simpa using ht.symm
    subst e
    show st = _
    omega
theorem Snd.drop {last : Nat} {l : List ItT} (h : Snd last l) (n : Nat) : Snd last (l.drop n) := by
  refine ⟨fun t ht => h.each t (List.mem_of_mem_drop ht), fun t ht => h.top t (List.mem_of_mem_drop ht), fun i t u hi hu => ?_, fun t ht => ?_⟩
  · rw [List.getElem?_drop] at hi hu
    exact h.next (n + i) t u hi (by rw [Nat.add_assoc]; exact hu)
  · have hlt := (List.getElem?_eq_some_iff.1 ht).1
    rw [List.getElem?_drop, List.length_drop] at ht
    simp at hlt
    exact h.end_ t (by rw [show l.length - 1 = n + (l.length - n - 1) by omega]; exact ht)
/-- What a step makes of the items: last stamp and list. -/
def QuT.stepped (Q : QuT) (s : StT) : Nat × List ItT :=
  if s.kind = 1 then (if Q.putC s.st s.cs = 0 then (s.st.toNat, Q.l ++ [⟨s.st, Q.last, false, s.cs, []⟩]) else (Q.last, Q.l))
  else if s.kind = 2 then (if Q.collC s.st s.ps = 0 then (s.st.toNat, [⟨s.st, Q.begin, true, [], s.ps⟩]) else (Q.last, Q.l))
  else if s.kind = 4 then (Q.last, Q.l.drop (tookN Q.l s.st))
  else (Q.last, Q.l)
theorem putC_ok {Q : QuT} {st : Int} {l : List TgT} (h : Q.putC st l = 0) : (Q.last : Int) < st ∧ st ≤ 2147483647 ∧ l ≠ [] ∧ tagless l = false ∧ Q.l.length ≠ Q.room := by
  unfold QuT.putC at h
  split at h
  · exact absurd h (by assumption)
  · rename_i h1
    have h1 : mayQ Q.last st (decide (l ≠ []) && !tagless l) = 0 := Decidable.of_not_not h1
    split at h
    · cases h
    · rename_i h2
      obtain ⟨g1, g2, g3⟩ := may_ok h1
      simp only [Bool.and_eq_true, decide_eq_true_eq, Bool.not_eq_true'] at g3
      exact ⟨g1, g2, g3.1, g3.2, h2⟩
theorem collC_ok {Q : QuT} {st : Int} {l : List PaT} (h : Q.collC st l = 0) : (Q.last : Int) < st ∧ st ≤ 2147483647 ∧ l ≠ [] ∧ Q.room ≠ 0 := by
  unfold QuT.collC at h
  split at h
  · exact absurd h (by assumption)
  · rename_i h1
    have h1 : mayQ Q.last st (decide (l ≠ [])) = 0 := Decidable.of_not_not h1
    split at h
    · cases h
    · rename_i h2
      obtain ⟨g1, g2, g3⟩ := may_ok h1
      simp only [decide_eq_true_eq] at g3
      exact ⟨g1, g2, g3, h2⟩
theorem Snd.stepped {Q : QuT} (h : Snd Q.last Q.l) (s : StT) : Snd (Q.stepped s).1 (Q.stepped s).2 ∧ Q.last ≤ (Q.stepped s).1 := by
  unfold QuT.stepped
  split
  · split
    · rename_i h1
      obtain ⟨g1, g2, g3, g4, g5⟩ := putC_ok h1
      exact ⟨h.put g1 g3, by show _ ≤ s.st.toNat; omega⟩
    · exact ⟨h, Nat.le_refl _⟩
  · split
    · split
      · rename_i h1
        obtain ⟨g1, g2, g3, g4⟩ := collC_ok h1
        exact ⟨h.coll (by obtain ⟨r, f, la, l⟩ := Q; exact h.begin) g1 g3, by show _ ≤ s.st.toNat; omega⟩
      · exact ⟨h, Nat.le_refl _⟩
    · split
      · exact ⟨h.drop _, Nat.le_refl _⟩
      · exact ⟨h, Nat.le_refl _⟩
end Go.Proofs.Ytlidkieljiebiaa
