/-
  heraldlaw9: turn.
-/
import Derived.Test.YtcoicoijllpgnaaGreatDoorXLeaves
namespace Go.Proofs.YtcoicoijllpgnaaGreatDoor
open Go.RowKit Go.Maps
set_option linter.unusedVariables false
set_option linter.unusedSimpArgs false

def noOn : On := ⟨0, 0, ⟨#[]⟩, 0, 0⟩
def turnL (T : List On) (k q : Nat) : List On := (List.range q).map (fun r => T.getD ((T.length - 1 - r + k) % T.length) noOn)
theorem turn_next (T : List On) (k q : Nat) : turnL T k (q + 1) = turnL T k q ++ [T.getD ((T.length - 1 - q + k) % T.length) noOn] := by
  unfold turnL
  rw [List.range_succ, List.map_append]
  rfl
theorem turn_len (T : List On) (k q : Nat) : (turnL T k q).length = q := by simp [turnL]
theorem mod_inj {n i j k : Nat} (hi : i < n) (hj : j < n) (h : (i + k) % n = (j + k) % n) : i = j := by
  have hk : k % n < n := Nat.mod_lt _ (by omega)
  have e : ∀ a, a < n → (a + k) % n = if a + k % n < n then a + k % n else a + k % n - n := fun a ha => by
    rw [Nat.add_mod, Nat.mod_eq_of_lt ha]
    split
    · next h => exact Nat.mod_eq_of_lt h
    · next h => rw [Nat.mod_eq_sub_mod (by omega), Nat.mod_eq_of_lt (by omega)]
  rw [e i hi, e j hj] at h
  split at h <;> split at h <;> omega
theorem fit_nodup {T : List On} (h : Fit T) : T.Nodup := h.key.imp (fun {a b} hab e => hab (by rw [e]; exact ⟨rfl, rfl⟩))
theorem perm_of_sub {A B : List On} (ha : A.Nodup) (hb : B.Nodup) (hs : ∀ x ∈ A, x ∈ B) (hl : A.length = B.length) : A.Perm B := by
  refine (List.perm_ext_iff_of_nodup ha hb).2 (fun x => ⟨hs x, fun hx => ?_⟩)
  by_cases h : x ∈ A
  · exact h
  · have h1 : (x :: A).Nodup := List.nodup_cons.2 ⟨h, ha⟩
    have h2 := List.Nodup.length_le_of_subset h1 (l₂ := B) (fun y hy => by
      rcases List.mem_cons.1 hy with rfl | hy
      · exact hx
      · exact hs y hy)
    rw [List.length_cons] at h2
    omega
theorem getD_at {T : List On} {i : Nat} (h : i < T.length) : T.getD i noOn = T[i] := by
  rw [List.getD_eq_getElem?_getD, List.getElem?_eq_getElem h]
  rfl
theorem nodup_at {T : List On} (h : T.Nodup) {i j : Nat} (hi : i < T.length) (hj : j < T.length) (e : T[i] = T[j]) : i = j := by
  have h1 := List.pairwise_iff_getElem.1 h
  rcases Nat.lt_trichotomy i j with g | g | g
  · exact absurd e (h1 i j hi hj g)
  · exact g
  · exact absurd e.symm (h1 j i hj hi g)
theorem turn_perm {T : List On} (hF : Fit T) (k : Nat) : (turnL T k T.length).Perm T := by
  have hT := fit_nodup hF
  by_cases h0 : T.length = 0
  · have : T = [] := List.eq_nil_of_length_eq_zero h0
    subst this
    exact List.Perm.refl _
  · have hm : ∀ a, a % T.length < T.length := fun a => Nat.mod_lt _ (by omega)
    refine perm_of_sub ?_ hT (fun x hx => ?_) (turn_len _ _ _)
    · unfold turnL
      refine List.pairwise_map.2 (List.Pairwise.imp_of_mem (fun {a b} ha hb hab e => ?_) (List.nodup_range (n := T.length)))
      rw [List.mem_range] at ha hb
      have h1 := hm (T.length - 1 - a + k)
      have h2 := hm (T.length - 1 - b + k)
      rw [getD_at h1, getD_at h2] at e
      have h3 := nodup_at hT h1 h2 e
      have h4 := mod_inj (by omega) (by omega) h3
      exact hab (by omega)
    · unfold turnL at hx
      obtain ⟨r, _, rfl⟩ := List.mem_map.1 hx
      rw [getD_at (hm _)]
      exact List.getElem_mem _
set_option maxHeartbeats 16000000 in
set_option maxRecDepth 100000 in
theorem turn_any (a : Option Addr) (c : Nat) (T : List On) (k : Nat) (w : World) (hT : OsAt w a T) (hl : T.length ≤ 1000) (hk : k ≤ 1000) :
    Calls Tryz.prog 19 #[.slice a T.length c, .int .i64 k] w fun e w' => ∃ v, e = .returned v ∧ w'.ownsRow w.heap.size 42 5 v T.length (onCs (turnL T k T.length)) ∧ Below w.heap.size w w' := by
  have HT : Hid (OsAt w a T) := hT
  obtain ⟨n, hn⟩ : ∃ n, T.length = n := ⟨_, rfl⟩
  have HN : Hid (T.length = n) := hn
  rw [hn] at hl ⊢
  clear hT hn
  go_enter Tryz.func19, Tryz.ntmps19
  go_wp2_with fail
  go_loopw [5, 6] (fun vt vi wr => ∃ q : Nat, vi = .int .i64 ((n : Int) - 1 - q) ∧ q ≤ n ∧ Hid (wr.ownsRow w.heap.size 42 5 vt (turnL T k q).length (onCs (turnL T k q))) ∧ Hid (Below w.heap.size w wr)) (fun _ vi _ => (intOf vi + 1).toNat)
  case atStart => exact ⟨0, by go_num, Nat.zero_le _, World.ownsRow_nil _ _ _ _, Below.refl _ _⟩
  case round =>
    obtain ⟨q, rfl, hq, HO, HB⟩ := hrel
    by_cases hlt : q < n
    · obtain ⟨i, hi⟩ : ∃ i : Nat, (n : Int) - 1 - q = (i : Int) := ⟨n - 1 - q, by omega⟩
      rw [hi]
      have hin : i < n := by omega
      have hi0 : (0 : Int) ≤ (i : Int) := by omega
      have hi1 : ¬ ((i : Int) < 0) := by omega
      obtain ⟨x, hx⟩ : ∃ x, T[(i + k) % n]? = some x := ⟨T[(i + k) % n]'(by rw [HN.out]; exact Nat.mod_lt _ (by omega)), List.getElem?_eq_getElem _⟩
      obtain ⟨b, o, rfl, x0, x1, x2, x3, x4⟩ := (HT.out.below HB.out).at hx
      have HTN : Hid (turnL T k (q + 1) = turnL T k q ++ [x]) := by
        show _ = _
        rw [turn_next, HN.out, show n - 1 - q + k = i + k by omega, List.getD_eq_getElem?_getD, hx]
        rfl
      have hm : ((i : Int) + (k : Int)).tmod (n : Int) = (((i + k) % n : Nat) : Int) := by
        rw [Int.tmod_eq_emod_of_nonneg (by omega)]
        push_cast
        rfl
      have hn0 : ¬ ((n : Int) = 0) := by omega
      have hn1 : ((n : Int) == 0) = false := by simpa using hn0
      have hml : (i + k) % n < n := Nat.mod_lt _ (by omega)
      have hTQ : (turnL T k q).length = q := turn_len _ _ _
      obtain ⟨r, hr⟩ : ∃ r, (i + k) % n = r := ⟨_, rfl⟩
      rw [hr] at hm hml x0 x1 x2 x3 x4
      clear hx hr
      go_wp2_with (first
        | (at_builtin; refine wpList_appO rfl _ _ rfl w.heap.size u5 (turnL T k q) rfl (owns_below HO.out ((Below.refl _ _).alloc (Nat.le_refl _) _)) wr.heap.size x rfl (heap_alloc_new _ _) (by omega) (by have := HB.out.size; simp; omega) ?_
           intro v3 w3 ho3 hg3 ha3
           have HO3 : Hid (w3.ownsRow w.heap.size 42 5 v3 (turnL T k (q + 1)).length (onCs (turnL T k (q + 1)))) := by
             show World.ownsRow _ _ _ _ _ _ _
             rw [HTN.out]
             exact ho3
           have HB3 : Hid (Below w.heap.size w w3) := (HB.out.alloc HB.out.size _).grown hg3 (by have := HB.out.size; simp; omega) (fun kk hkk => (HO.out.lt kk hkk).1)
           clear ho3 hg3 ha3)
        | fail)
      go_roundw
      case rel => exact ⟨q + 1, by go_num, by omega, HO3, HB3⟩
      case measure => simp [intOf]
    · obtain rfl : q = n := by omega
      have hneg : ¬ ((0 : Int) ≤ (q : Int) - 1 - q) := by omega
      have hneg2 : (q : Int) - 1 - q < 0 := by omega
      have HO' : Hid (wr.ownsRow w.heap.size 42 5 u5 q (onCs (turnL T k q))) := by
        have h9 := HO.out
        rw [turn_len] at h9
        exact h9
      go_wp2_with fail
      go_ret
      exact ⟨_, rfl, HO'.out, HB.out⟩
end Go.Proofs.YtcoicoijllpgnaaGreatDoor
