/-
  line: what was sent and what is in flight.
-/
import Derived.Test.YtfcobhgjkibdgaaLSent
import Derived.Test.YtfcobhgjkibdgaaLTurn
namespace Go.Proofs.Ytfcobhgjkibdgaa
open Go.RowKit
set_option linter.unusedVariables false
set_option linter.unusedSimpArgs false

def alive (xs : List SnX) (i : Nat) : Bool := match xs[i]? with | some x => !x.2 | none => false
def liveI (xs : List SnX) : List Nat := (List.range xs.length).filter (alive xs)
/-- What is in flight is what was sent and not taken, but for one byte. -/
structure Hon (L : LnT) (xs : List SnX) : Prop where
  no : L.no = false
  gv : L.gv = xs.length
  fl : L.fl.map (fun p => p.n) = (liveI xs).map (· + 1)
  near : ∀ p ∈ L.fl, ∃ x, xs[p.n - 1]? = some x ∧ Near p.m x.1 ∧ (p.s = false → p.m = x.1)
theorem hon0 : Hon ln0 [] := ⟨rfl, rfl, rfl, fun p h => by cases h⟩
theorem alive_snoc (xs : List SnX) (x : SnX) (i : Nat) (hi : i < xs.length) : alive (xs ++ [x]) i = alive xs i := by unfold alive; rw [List.getElem?_append_left hi]
theorem liveI_snoc (xs : List SnX) (m : MsT) : liveI (xs ++ [(m, false)]) = liveI xs ++ [xs.length] := by
  unfold liveI
  rw [List.length_append]
  show (List.range (xs.length + 1)).filter _ = _
  rw [List.range_succ, List.filter_append]
  congr 1
  · exact List.filter_congr (fun i hi => alive_snoc xs _ i (List.mem_range.1 hi))
  · have : alive (xs ++ [(m, false)]) xs.length = true := by unfold alive; rw [List.getElem?_append_right (Nat.le_refl _), Nat.sub_self]; rfl
    simp [List.filter, this]
theorem liveI_snocT (xs : List SnX) (m : MsT) : liveI (xs ++ [(m, true)]) = liveI xs := by
  unfold liveI
  rw [List.length_append]
  show (List.range (xs.length + 1)).filter _ = _
  rw [List.range_succ, List.filter_append]
  have h1 : (List.range xs.length).filter (alive (xs ++ [(m, true)])) = (List.range xs.length).filter (alive xs) := List.filter_congr (fun i hi => alive_snoc xs _ i (List.mem_range.1 hi))
  have : alive (xs ++ [(m, true)]) xs.length = false := by unfold alive; rw [List.getElem?_append_right (Nat.le_refl _), Nat.sub_self]; rfl
  rw [h1]
  simp [List.filter, this]
theorem liveN_eq (xs : List SnX) : liveN xs = (liveI xs).length := by
  suffices h : ∀ n, ∀ xs : List SnX, xs.length = n → liveN xs = (liveI xs).length from h _ xs rfl
  intro n
  induction n with
  | zero =>
    intro xs h
    obtain rfl := List.eq_nil_of_length_eq_zero h
    rfl
  | succ n ih =>
    intro xs h
    obtain ⟨l', s, rfl⟩ : ∃ l' s, xs = l' ++ [s] := ⟨xs.dropLast, xs.getLast (by intro e; subst e; simp at h), (List.dropLast_concat_getLast _).symm⟩
    obtain ⟨m, b⟩ := s
    have h1 := ih l' (by simpa using h)
    unfold liveN at h1 ⊢
    cases b with
    | true => rw [liveI_snocT, List.filter_append, List.length_append]; simpa using h1
    | false => rw [liveI_snoc, List.filter_append, List.length_append, List.length_append]; simpa using h1
theorem Hon.live {L : LnT} {xs : List SnX} (h : Hon L xs) : liveN xs = L.fl.length := by
  rw [liveN_eq]
  have := congrArg List.length h.fl
  simpa using this.symm
theorem mem_liveI {xs : List SnX} {i : Nat} : i ∈ liveI xs ↔ ∃ x, xs[i]? = some x ∧ x.2 = false := by
  unfold liveI
  rw [List.mem_filter, List.mem_range]
  unfold alive
  constructor
  · rintro ⟨h1, h2⟩
    rw [List.getElem?_eq_getElem h1] at h2
    exact ⟨_, List.getElem?_eq_getElem h1, by simpa using h2⟩
  · rintro ⟨x, h1, h2⟩
    refine ⟨(List.getElem?_eq_some_iff.1 h1).1, ?_⟩
    rw [h1]
    simp [h2]
/-- A number is in flight just if it was sent and is not gone. -/
theorem Hon.find {L : LnT} {xs : List SnX} (h : Hon L xs) (n : Int) : (∃ p, fnd L.fl n = some p) ↔ ∃ (i : Nat) (x : SnX), n = (i : Int) + 1 ∧ xs[i]? = some x ∧ x.2 = false := by
  constructor
  · rintro ⟨p, hp⟩
    obtain ⟨h1, h2⟩ := fnd_mem hp
    have h3 : p.n ∈ L.fl.map (fun p => p.n) := List.mem_map.2 ⟨p, h1, rfl⟩
    rw [h.fl] at h3
    obtain ⟨i, hi, e⟩ := List.mem_map.1 h3
    obtain ⟨x, hx, hb⟩ := mem_liveI.1 hi
    exact ⟨i, x, by rw [← h2]; omega, hx, hb⟩
  · rintro ⟨i, x, rfl, hx, hb⟩
    have h3 : i + 1 ∈ L.fl.map (fun p => p.n) := by rw [h.fl]; exact List.mem_map.2 ⟨i, mem_liveI.2 ⟨x, hx, hb⟩, rfl⟩
    obtain ⟨p, hp, e⟩ := List.mem_map.1 h3
    rcases fnd_cases L.fl ((i : Int) + 1) with ⟨_, q, _, _, _, hf, _⟩ | ⟨_, _, hno⟩
    · exact ⟨q, hf⟩
    · obtain ⟨j, hj⟩ := List.getElem?_of_mem hp
      exact absurd (by show (p.n : Int) = _; rw [e]; rfl) (hno j p hj)
theorem Hon.at {L : LnT} {xs : List SnX} (h : Hon L xs) {n : Int} {p : PcT} (hp : fnd L.fl n = some p) : ∃ (i : Nat) (x : SnX), n = (i : Int) + 1 ∧ p.n = i + 1 ∧ xs[i]? = some x ∧ x.2 = false ∧ Near p.m x.1 ∧ (p.s = false → p.m = x.1) := by
  obtain ⟨i, x, hn, hx, hb⟩ := (h.find n).1 ⟨p, hp⟩
  obtain ⟨h1, h2⟩ := fnd_mem hp
  have hpn : p.n = i + 1 := by omega
  obtain ⟨y, hy, h3, h4⟩ := h.near p h1
  rw [hpn, Nat.add_sub_cancel, hx] at hy
  cases hy
  exact ⟨i, x, hn, hpn, hx, hb, h3, h4⟩
theorem Hon.put {L : LnT} {xs : List SnX} (h : Hon L xs) (m0 m : MsT) (s : Bool) (hf : L.fl.length < 256) (hm : Near m m0) (hs : s = false → m = m0) : Hon (L.put m s).1 (xs ++ [(m0, false)]) ∧ (L.put m s).2 = (xs.length : Int) + 1 := by
  unfold LnT.put
  rw [if_neg (by rw [h.no]; simp; omega)]
  refine ⟨⟨rfl, by rw [List.length_append, ← h.gv]; rfl, ?_, fun p hp => ?_⟩, by rw [h.gv]; rfl⟩
  · rw [liveI_snoc, List.map_append, List.map_append, h.fl, h.gv]
    rfl
  · rcases List.mem_append.1 hp with hp | hp
    · obtain ⟨x, hx, h1⟩ := h.near p hp
      exact ⟨x, by rw [List.getElem?_append_left (List.getElem?_eq_some_iff.1 hx).1]; exact hx, h1⟩
    · obtain rfl : p = ⟨L.gv + 1, m, s⟩ := by simpa using hp
      exact ⟨(m0, false), by rw [h.gv, Nat.add_sub_cancel, List.getElem?_append_right (Nat.le_refl _), Nat.sub_self]; rfl, hm, hs⟩
theorem Hon.full {L : LnT} {xs : List SnX} (h : Hon L xs) (m : MsT) (s : Bool) (hf : 256 ≤ L.fl.length) : L.put m s = (L, -1) := by
  unfold LnT.put
  rw [if_pos (.inr hf)]
theorem alive_set (xs : List SnX) (i j : Nat) (m : MsT) (hi : i < xs.length) : alive (xs.set i (m, true)) j = (alive xs j && !(j == i)) := by
  unfold alive
  rw [List.getElem?_set]
  by_cases e : i = j
  · subst e
    rw [if_pos rfl, if_pos hi]
    simp
  · rw [if_neg e]
    have : (j == i) = false := by simp; omega
    rw [this]
    simp
theorem Hon.take {L : LnT} {xs : List SnX} (h : Hon L xs) {i : Nat} {x : SnX} {p : PcT} (hp : fnd L.fl ((i : Int) + 1) = some p) (hx : xs[i]? = some x) : Hon (L.tak ((i : Int) + 1)).1 (xs.set i (x.1, true)) := by
  have hi := (List.getElem?_eq_some_iff.1 hx).1
  unfold LnT.tak
  rw [hp]
  refine ⟨rfl, by rw [List.length_set]; exact h.gv, ?_, fun q hq => ?_⟩
  · show (L.fl.filter fun q => !((q.n : Int) == (i : Int) + 1)).map (fun p => p.n) = _
    have e1 : (L.fl.filter fun q => !((q.n : Int) == (i : Int) + 1)).map (fun p => p.n) = (L.fl.map (fun p => p.n)).filter (fun n => !(n == i + 1)) := by
      rw [List.filter_map]
      congr 1
      refine List.filter_congr (fun q _ => ?_)
      show _ = (!(q.n == i + 1))
      congr 1
      rw [Bool.eq_iff_iff]
      simp
      omega
    have e2 : liveI (xs.set i (x.1, true)) = (liveI xs).filter (fun j => !(j == i)) := by
      unfold liveI
      rw [List.length_set, List.filter_filter]
      refine List.filter_congr (fun j _ => ?_)
      rw [alive_set xs i j x.1 hi, Bool.and_comm]
    rw [e1, e2, h.fl, List.filter_map]
    congr 1
    refine List.filter_congr (fun j _ => ?_)
    show (!(j + 1 == i + 1)) = !(j == i)
    simp
  · obtain ⟨hq1, hq2⟩ := List.mem_filter.1 hq
    obtain ⟨y, hy, h1⟩ := h.near q hq1
    have h3 : q.n ∈ L.fl.map (fun p => p.n) := List.mem_map.2 ⟨q, hq1, rfl⟩
    rw [h.fl] at h3
    obtain ⟨k, _, e⟩ := List.mem_map.1 h3
    have hne : ¬ (q.n : Int) = (i : Int) + 1 := by simpa using hq2
    refine ⟨y, ?_, h1⟩
    rw [List.getElem?_set_ne (by omega)]
    exact hy
theorem near_tn2 {m m0 : MsT} {a t : Int} (ht : 1 ≤ t ∧ t ≤ 255) (h : m = m0) : Near ⟨m.f, m.t, tnB m.b a t⟩ m0 := by subst h; exact near_tn m ht
theorem Hon.spoil {L : LnT} {xs : List SnX} (h : Hon L xs) (n a t : Int) : Hon (L.spl n a t).1 xs := by
  unfold LnT.spl
  rcases fnd_cases L.fl n with ⟨i, p, hp, hn, hI, hf, _⟩ | ⟨hI, hf, _⟩
  · rw [hf]
    dsimp only
    split
    · exact h
    · rename_i hbad
      split
      · exact h
      · rename_i hs
        rw [hI]
        have hmem := List.mem_of_getElem? hp
        refine ⟨rfl, h.gv, ?_, fun q hq => ?_⟩
        · rw [← h.fl]
          show (L.fl.set i _).map (fun p => p.n) = _
          rw [List.map_set]
          obtain ⟨hi, rfl⟩ := List.getElem?_eq_some_iff.1 hp
          apply List.ext_getElem?
          intro j
          rw [List.getElem?_set]
          split
          · rename_i e
            subst e
            rw [if_pos (by simpa using hi), List.getElem?_map, List.getElem?_eq_getElem hi]
            rfl
          · rfl
        · rcases List.mem_or_eq_of_mem_set hq with hq | rfl
          · exact h.near q hq
          · obtain ⟨x, hx, _, h2⟩ := h.near p hmem
            refine ⟨x, hx, near_tn2 (by omega) (h2 (by simpa using hs)), (fun h => by cases h)⟩
  · rw [hf]
    exact h
end Go.Proofs.Ytfcobhgjkibdgaa
