import Derived.Test.YtbblckcjedjbcaaGreatDoorXFit
namespace Go.Proofs.YtbblckcjedjbcaaGreatDoor
open Go.RowKit Go.Maps
set_option linter.unusedVariables false
set_option linter.unusedSimpArgs false

theorem La.gl {w wr : World} {K : Nat → Prop} {B : Nat} {vt : Value} {T : List On × List On} (h : La w wr K B vt T) (hg : Ground w) : Gl K ∧ Ground wr := by
  have h1 := hg.lt
  refine ⟨⟨fun e => ?_, fun e => ?_⟩, hg.below h.own.bel⟩
  · have := h.own.low _ e
    omega
  · have := h.own.low _ e
    omega
theorem La.os {w wr : World} {K : Nat → Prop} {B : Nat} {a : Option Addr} {n c : Nat} {T : List On × List On} (h : La w wr K B (.slice a n c) T) : OsAt wr a T.2 := by
  obtain ⟨a', c', e, ho⟩ := os_of_row h.row
  simp only [Value.slice.injEq] at e
  rw [e.1]
  exact ho
theorem siz_nil : sizO [] = 1 := rfl
end Go.Proofs.YtbblckcjedjbcaaGreatDoor
namespace Go.Proofs.YtbblckcjedjbcaaGreatDoor
open Go.RowKit Go.Maps
set_option linter.unusedVariables false
set_option linter.unusedSimpArgs false

def noOn : On := ⟨0, 0, ⟨#[]⟩, 0, 0⟩
def turnL (T : List On) (k q : Nat) : List On := (List.range q).map (fun r => T.getD ((T.length - 1 - r + k) % T.length) noOn)
theorem turn_next (T : List On) (k q : Nat) : turnL T k (q + 1) = turnL T k q ++ [T.getD ((T.length - 1 - q + k) % T.length) noOn] := by
  unfold turnL
  rw [List.range_succ, List.map_append]
  rfl
theorem turn_len (T : List On) (k q : Nat) : (turnL T k q).length = q := by simp [turnL]
theorem mod_inj {n i j k : Nat} (hi : i < n) (hj : j < n) (h : (i + k) % n = (j + k) % n) : i = j := by
  have hk : k % n < n := Nat.mod_lt _ (by omega)
  have e : ∀ a, a < n → (a + k) % n = if a + k % n < n then a + k % n else a + k % n - n := fun a ha => by
    rw [Nat.add_mod, Nat.mod_eq_of_lt ha]
    split
    · next h => exact Nat.mod_eq_of_lt h
    · next h => rw [Nat.mod_eq_sub_mod (by omega), Nat.mod_eq_of_lt (by omega)]
  rw [e i hi, e j hj] at h
  split at h <;> split at h <;> omega
theorem fit_nodup {T : List On} (h : Fit T) : T.Nodup := h.key.imp (fun {a b} hab e => hab (by rw [e]; exact ⟨rfl, rfl⟩))
theorem perm_of_sub {A B : List On} (ha : A.Nodup) (hb : B.Nodup) (hs : ∀ x ∈ A, x ∈ B) (hl : A.length = B.length) : A.Perm B := by
  refine (List.perm_ext_iff_of_nodup ha hb).2 (fun x => ⟨hs x, fun hx => ?_⟩)
  by_cases h : x ∈ A
  · exact h
  · have h1 : (x :: A).Nodup := List.nodup_cons.2 ⟨h, ha⟩
    have h2 := List.Nodup.length_le_of_subset h1 (l₂ := B) (fun y hy => by
      rcases List.mem_cons.1 hy with rfl | hy
      · exact hx
      · exact hs y hy)
    rw [List.length_cons] at h2
    omega
theorem getD_at {T : List On} {i : Nat} (h : i < T.length) : T.getD i noOn = T[i] := by
  rw [List.getD_eq_getElem?_getD, List.getElem?_eq_getElem h]
  rfl
theorem nodup_at {T : List On} (h : T.Nodup) {i j : Nat} (hi : i < T.length) (hj : j < T.length) (e : T[i] = T[j]) : i = j := by
  have h1 := List.pairwise_iff_getElem.1 h
  rcases Nat.lt_trichotomy i j with g | g | g
  · exact absurd e (h1 i j hi hj g)
  · exact g
  · exact absurd e.symm (h1 j i hj hi g)
theorem turn_perm {T : List On} (hF : Fit T) (k : Nat) : (turnL T k T.length).Perm T := by
  have hT := fit_nodup hF
  by_cases h0 : T.length = 0
  · have : T = [] := List.eq_nil_of_length_eq_zero h0
    subst this
    exact List.Perm.refl _
  · have hm : ∀ a, a % T.length < T.length := fun a => Nat.mod_lt _ (by omega)
    refine perm_of_sub ?_ hT (fun x hx => ?_) (turn_len _ _ _)
    · unfold turnL
      refine List.pairwise_map.2 (List.Pairwise.imp_of_mem (fun {a b} ha hb hab e => ?_) (List.nodup_range (n := T.length)))
      rw [List.mem_range] at ha hb
      have h1 := hm (T.length - 1 - a + k)
      have h2 := hm (T.length - 1 - b + k)
      rw [getD_at h1, getD_at h2] at e
      have h3 := nodup_at hT h1 h2 e
      have h4 := mod_inj (by omega) (by omega) h3
      exact hab (by omega)
    · unfold turnL at hx
      obtain ⟨r, _, rfl⟩ := List.mem_map.1 hx
      rw [getD_at (hm _)]
      exact List.getElem_mem _
end Go.Proofs.YtbblckcjedjbcaaGreatDoor
namespace Go.Proofs.YtbblckcjedjbcaaGreatDoor
open Go.RowKit Go.Maps
set_option linter.unusedVariables false
set_option linter.unusedSimpArgs false

theorem del_ins {L : List On} {x : On} (h : hasO L x.s x.i = false) (ho : OrdO (insO x L)) (hL : OrdO L) : delO (insO x L) x.s x.i = L := by
  refine ord_same (List.Pairwise.filter _ ho) hL ?_
  have h1 : (delO (insO x L) x.s x.i).Perm (delO (L ++ [x]) x.s x.i) := (insO_perm x L).filter _
  refine h1.trans ?_
  unfold delO
  rw [List.filter_append]
  have h2 : L.filter (fun y => !(decide (y.s = x.s) && decide (y.i = x.i))) = L := delO_none h
  rw [h2]
  simp
theorem ins_has (L : List On) (x : On) : dropC (insO x L) x.s x.i = 0 := by
  unfold dropC
  rw [if_pos (hasO_iff.2 ⟨x, (insO_perm x L).mem_iff.2 (by simp), rfl, rfl⟩)]
theorem rem_neg {k : Int} (h : k < 0) : ∃ r : Nat, (-(k + 1)).tmod 1000 = (r : Int) ∧ r ≤ 1000 :=
  ⟨((-(k + 1)).tmod 1000).toNat, by rw [Int.tmod_eq_emod_of_nonneg (by omega)]; omega, by rw [Int.tmod_eq_emod_of_nonneg (by omega)]; omega⟩
theorem rem_pos {k : Int} (h : ¬ k < 0) : ∃ r : Nat, k.tmod 1000 = (r : Int) ∧ r ≤ 1000 :=
  ⟨(k.tmod 1000).toNat, by rw [Int.tmod_eq_emod_of_nonneg (by omega)]; omega, by rw [Int.tmod_eq_emod_of_nonneg (by omega)]; omega⟩
theorem Own9.gl {w wr : World} {K : Nat → Prop} {B : Nat} {L : List On} (h : Own9 w wr K B L) (hg : Ground w) : Ground wr := hg.below h.bel
end Go.Proofs.YtbblckcjedjbcaaGreatDoor
