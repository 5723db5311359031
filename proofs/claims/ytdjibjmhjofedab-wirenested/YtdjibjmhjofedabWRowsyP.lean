/-
  Lists of lists of bytes that came in.
-/
import Derived.Test.YtdjibjmhjofedabWRowsy
import Derived.Test.YtdjibjmhjofedabWFrame
import Derived.SizedLaws
import Derived.Deep.Slices
namespace Go.Proofs.Ytdjibjmhjofedab
open Go.RowKit Go.ChangeShapes Go.WideShapes Go.ChangeAt

theorem list_of {α : Type} {P : Nat → α → Prop} : ∀ n, (∀ i, i < n → ∃ x, P i x) → ∃ l : List α, l.length = n ∧ ∀ (j : Nat) (x : α), l[j]? = some x → P j x
  | 0, _ => ⟨[], rfl, fun j x h => by simp at h⟩
  | n + 1, h => by
    obtain ⟨l, hl, hp⟩ := list_of n (fun i hi => h i (by omega))
    obtain ⟨x, hx⟩ := h n (by omega)
    refine ⟨l ++ [x], by simp [hl], fun j y hy => ?_⟩
    by_cases hj : j < l.length
    · rw [List.getElem?_append_left hj] at hy
      exact hp j y hy
    · rw [List.getElem?_append_right (by omega)] at hy
      have hj0 : j - l.length = 0 := by
        rcases Nat.eq_zero_or_pos (j - l.length) with g | g
        · exact g
        · rw [List.getElem?_eq_none (by simp; omega)] at hy
          cases hy
      rw [hj0] at hy
      have : j = n := by omega
      subst this
      have e : x = y := by simpa using hy
      subst e
      exact hx

theorem weights_all {H : Type} {P : Program} {e : TypeId} {d : DataW H} {n : Nat} : ∀ {l : List (DataW H)}, d ∈ l → n ∈ d.weights P e → n ∈ DataW.weightsAll P e l
  | x :: r, hd, hn => by
    simp only [DataW.weightsAll, List.mem_append]
    rcases List.mem_cons.1 hd with rfl | hd
    · exact .inl hn
    · exact .inr (weights_all hd hn)

theorem bytes5 : Try.prog.bytesOf 5 = 1 := by kernel_rfl

/-- One list of bytes that a cell holds. -/
theorem piece_of {H : Type} {enc : TypeId × Value → H} {W : World} {n : Nat} {V : Value} {D : DataW H} {Pl : List MemPlace} (h : DataW.trod enc Try.prog W 0 (fun _ => true) true n 22 [V] = some (D, Pl)) (hz : ∀ m ∈ D.weights Try.prog 22, m ≤ reachBytes) :
    ∃ p : Pc, V = p.val ∧ p.ok W ∧ p.2.2.length ≤ reachBytes := by
  rcases open_ints Try.underlying22 Try.underlying5 (by kernel_rfl) h with ⟨hcs, _⟩ | ⟨x, len, cap, zs, hcs, _, hl, hm, hzl, hD, hcell, hwz⟩
  · have hV : V = .slice none 0 0 := by simpa using hcs
    subst hV
    exact ⟨(none, 0, []), rfl, ⟨.inl rfl, (fun _ h => by cases h), fun _ => rfl⟩, Nat.zero_le _⟩
  · have hV : V = .slice (some x) len cap := by simpa using hcs
    subst hV
    have hzl' : zs.length = cap := by simpa using hzl
    have htl : (zs.take len).length = len := by rw [List.length_take]; omega
    simp only [Prod.mk.injEq] at hD
    have hw : ((lits (H := H) .u8 (zs.take len)).length + (lits (H := H) .u8 (zs.drop len)).length) * Try.prog.bytesOf 5 ≤ reachBytes := hz _ (by rw [hD.1]; simp [DataW.weights, Try.underlying22])
    rw [bytes5] at hw
    have hlen : len ≤ reachBytes := by
      simp only [lits, List.length_map, List.length_take, List.length_drop] at hw
      omega
    refine ⟨(some x, cap, zs.take len), ?_, ⟨?_, ?_, fun h => by cases h⟩, by show (zs.take len).length ≤ _; rw [htl]; exact hlen⟩
    · unfold Pc.val
      simp only
      rw [htl]
    · show Bys W (some x) (zs.take len)
      by_cases h0 : len = 0
      · left
        exact List.eq_nil_of_length_eq_zero (by rw [htl]; exact h0)
      · right
        obtain ⟨b, o, spot⟩ := x
        have hc0 := hcell 0 (by omega)
        have hspot : spot = none := by simpa [Addr.add] using World.cell?_spot hc0
        subst hspot
        refine ⟨b, o, rfl, ?_, fun j z hj => ?_⟩
        · have := World.block_lt_of_cell? _ _ hc0
          simpa [Addr.add] using this
        · have hjl : j < len := by
            rw [List.getElem?_eq_some_iff] at hj
            have := hj.1
            omega
          rw [List.getElem?_take, if_pos hjl] at hj
          have := hcell j (by omega)
          rw [List.getD_eq_getElem?_getD, hj, addr_add] at this
          exact this
    · intro z hz'
      have := bounds_u8 (hwz z (List.mem_of_mem_take hz'))
      omega

theorem pieces_of {H : Type} {enc : TypeId × Value → H} {W : World} {a : Option Addr} {len cap : Nat} {d : DataW H} {p : List MemPlace}
    (h : DataW.Trod enc Try.prog W 0 (fun _ => true) true 37 (.slice a len cap) d p) (hz : ∀ m ∈ d.weights Try.prog 37, m ≤ reachBytes) :
    ∃ ps : List Pc, len = ps.length ∧ (Pcs W a ps ∧ ps.length ≤ 9223372036854775807 ∧ ∀ p ∈ ps, p.2.2.length ≤ reachBytes) := by
  obtain ⟨fuel, hf⟩ := h
  rcases Go.Deep.open_slice1 Try.underlying37 (by kernel_rfl) hf with ⟨hcs, _⟩ | ⟨x, l, c, m, n, V, D, Pl, hcs, _, hl, hm, hmm, hx, hV⟩
  · simp [Value.cells] at hcs
    obtain ⟨rfl, rfl, rfl⟩ := hcs
    exact ⟨[], rfl, ⟨.inl rfl, fun _ h => by cases h⟩, Nat.zero_le _, fun _ h => by cases h⟩
  · simp [Value.cells] at hcs
    obtain ⟨rfl, rfl, rfl⟩ := hcs
    have hmc : m = cap := by simpa using hmm
    subst hmc
    simp only [Prod.mk.injEq] at hx
    have each : ∀ i, i < len → ∃ p : Pc, W.cell? (x.add i) = some p.val ∧ p.ok W ∧ p.2.2.length ≤ reachBytes := by
      intro i hi
      obtain ⟨h1, h2⟩ := hV i (by omega)
      obtain ⟨p, hp, hk, hlen⟩ := piece_of h2 (fun q hq => hz q (by
        rw [hx.1]
        simp only [DataW.weights, Try.underlying37, List.mem_cons, List.mem_append]
        exact .inr (.inl (weights_all (List.mem_map.2 ⟨i, List.mem_range.2 hi, rfl⟩) hq))))
      exact ⟨p, by rw [h1, hp], hk, hlen⟩
    obtain ⟨ps, hpl, hps⟩ := list_of len each
    have hmem : ∀ p ∈ ps, p.ok W ∧ p.2.2.length ≤ reachBytes := by
      intro p hp
      obtain ⟨j, hj⟩ := List.getElem?_of_mem hp
      exact (hps j p hj).2
    unfold maxLen at hm
    refine ⟨ps, hpl.symm, ⟨?_, fun p hp => (hmem p hp).1⟩, by omega, fun p hp => (hmem p hp).2⟩
    by_cases h0 : len = 0
    · left
      exact List.eq_nil_of_length_eq_zero (by omega)
    · right
      obtain ⟨b, o, spot⟩ := x
      obtain ⟨p0, hp0⟩ : ∃ p, ps[0]? = some p := ⟨ps[0]'(by omega), List.getElem?_eq_getElem _⟩
      have hc0 := (hps 0 p0 hp0).1
      have hspot : spot = none := by simpa [Addr.add] using World.cell?_spot hc0
      subst hspot
      refine ⟨b, o, rfl, ?_, fun j q hq => ?_⟩
      · have := World.block_lt_of_cell? _ _ hc0
        simpa [Addr.add] using this
      · have := (hps j q hq).1
        rw [addr_add] at this
        exact this

theorem body_bound {K : Nat} : ∀ {ps : List Pc}, (∀ p ∈ ps, p.2.2.length ≤ K) → (bodyOf ps).length ≤ ps.length * K
  | [], _ => by simp [bodyOf]
  | p :: r, h => by
    have h1 := body_bound (ps := r) (fun q hq => h q (by simp [hq]))
    have h2 := h p (by simp)
    have e : bodyOf (p :: r) = p.2.2 ++ bodyOf r := by simp [bodyOf]
    rw [e, List.length_append, List.length_cons, Nat.add_mul]
    omega
theorem body_reach {ps : List Pc} (h : ∀ p ∈ ps, p.2.2.length ≤ reachBytes) (hk : ps.length ≤ 24) : (bodyOf ps).length ≤ 4611686018427387904 := by
  have h1 := body_bound h
  have h2 : ps.length * reachBytes ≤ 24 * reachBytes := Nat.mul_le_mul_right _ hk
  have h3 : 24 * reachBytes ≤ 4611686018427387904 := by decide
  omega
end Go.Proofs.Ytdjibjmhjofedab
