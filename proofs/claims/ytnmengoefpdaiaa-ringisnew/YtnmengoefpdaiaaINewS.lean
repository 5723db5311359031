/-
  ring, own.go: what was told, and copies of it.
-/
import Derived.Test.YtnmengoefpdaiaaITakes
namespace Go.Proofs.Ytnmengoefpdaiaa.I
open Go.RowKit
set_option linter.unusedVariables false
set_option linter.unusedSimpArgs false

/-- Each in a block of its own. -/
def Nd (us : List Value) : Prop := ∀ (i j : Nat) (u v : Value) (b : Nat), us[i]? = some u → us[j]? = some v → u.ownBlock = some b → v.ownBlock = some b → i = j
theorem Nd.nil : Nd [] := fun i j u v b h => by simp at h
theorem Nd.app {A C : List Value} (h : Nd A) (k : Nd C) (s : Nat) (h1 : ∀ v ∈ A, ∀ b, v.ownBlock = some b → b < s) (h2 : ∀ v ∈ C, ∀ b, v.ownBlock = some b → s ≤ b) : Nd (A ++ C) := by
  intro i j u v b hu hv hub hvb
  rcases Nat.lt_or_ge i A.length with hi | hi
  · rw [List.getElem?_append_left hi] at hu
    rcases Nat.lt_or_ge j A.length with hj | hj
    · rw [List.getElem?_append_left hj] at hv
      exact h i j u v b hu hv hub hvb
    · rw [List.getElem?_append_right hj] at hv
      have := h1 u (List.mem_of_getElem? hu) b hub
      have := h2 v (List.mem_of_getElem? hv) b hvb
      omega
  · rw [List.getElem?_append_right hi] at hu
    rcases Nat.lt_or_ge j A.length with hj | hj
    · rw [List.getElem?_append_left hj] at hv
      have := h1 v (List.mem_of_getElem? hv) b hvb
      have := h2 u (List.mem_of_getElem? hu) b hub
      omega
    · rw [List.getElem?_append_right hj] at hv
      have := k (i - A.length) (j - A.length) u v b hu hv hub hvb
      omega
theorem Nd.one (v : Value) : Nd [v] := fun i j a c b ha hc _ _ => by
  have h1 := (List.getElem?_eq_some_iff.1 ha).1
  have h2 := (List.getElem?_eq_some_iff.1 hc).1
  simp at h1 h2
  omega
/-- These lists hold these entries. -/
def Es (w : World) (us : List Value) (PP : List (List PEnt)) : Prop := us.length = PP.length ∧ ∀ (k : Nat) (u : Value) (P : List PEnt), us[k]? = some u → PP[k]? = some P → EntsAt w u P
def ToB (us : List Value) (PP : List (List PEnt)) (j : Nat) : Prop := ∃ (k : Nat) (u : Value) (P : List PEnt), us[k]? = some u ∧ PP[k]? = some P ∧ EsB u P j
theorem Es.lt {w : World} {us : List Value} {PP : List (List PEnt)} (h : Es w us PP) : ∀ j, ToB us PP j → j < w.heap.size := fun j ⟨k, u, P, hu, hP, hj⟩ => (h.2 k u P hu hP).ltB j hj
theorem snoc_at {α : Type} {A : List α} {x : α} {k : Nat} {y : α} (hy : (A ++ [x])[k]? = some y) : A[k]? = some y ∨ (k = A.length ∧ y = x) := by
  rcases Nat.lt_or_ge k A.length with hk | hk
  · rw [List.getElem?_append_left hk] at hy; exact .inl hy
  · rw [List.getElem?_append_right hk] at hy
    cases hkk : k - A.length with
    | zero => rw [hkk] at hy; simp at hy; exact .inr ⟨by omega, hy.symm⟩
    | succ n => rw [hkk] at hy; simp at hy
theorem Es.push {w : World} {us : List Value} {PP : List (List PEnt)} (h : Es w us PP) {u : Value} {P : List PEnt} (hu : EntsAt w u P) : Es w (us ++ [u]) (PP ++ [P]) := by
  refine ⟨by rw [List.length_append, List.length_append, h.1]; rfl, fun k v Q hv hQ => ?_⟩
  rcases snoc_at hv with hv' | ⟨hk, rfl⟩
  · rcases snoc_at hQ with hQ' | ⟨hk, rfl⟩
    · exact h.2 k v Q hv' hQ'
    · have := (List.getElem?_eq_some_iff.1 hv').1
      have := h.1
      omega
  · rcases snoc_at hQ with hQ' | ⟨_, rfl⟩
    · have := (List.getElem?_eq_some_iff.1 hQ').1
      have := h.1
      omega
    · exact hu
theorem toB_push {us : List Value} {PP : List (List PEnt)} {u : Value} {P : List PEnt} {j : Nat} (hl : us.length = PP.length) (h : ToB (us ++ [u]) (PP ++ [P]) j) : ToB us PP j ∨ EsB u P j := by
  obtain ⟨k, v, Q, hv, hQ, hj⟩ := h
  rcases snoc_at hv with hv' | ⟨hk, rfl⟩
  · rcases snoc_at hQ with hQ' | ⟨hk, rfl⟩
    · exact .inl ⟨k, v, Q, hv', hQ', hj⟩
    · have := (List.getElem?_eq_some_iff.1 hv').1
      omega
  · rcases snoc_at hQ with hQ' | ⟨_, rfl⟩
    · have := (List.getElem?_eq_some_iff.1 hQ').1
      omega
    · exact .inr hj
/-- Entries stay where a row of lists is turned. -/
theorem ents_rows {w w' : World} {v t : Value} {P : List PEnt} {B n : Nat} {xs : List Value} (hE : EntsAt w v P) (hc : Chg w w' (fun b => t.ownBlock = some b)) (hr : w.ownsRow B 27 1 t n xs) : EntsAt w' v P := by
  refine hE.keepB (fun j hj => hc.block j (hE.ltB j hj) (fun hS => ?_))
  obtain ⟨c, hcc⟩ := owns_kind hr hS
  rcases hj with e | ⟨p, hp, e⟩
  · obtain ⟨c', hc'⟩ := owns_kind hE.row e
    rw [hcc] at hc'; cases hc'
  · obtain ⟨c', hc'⟩ := owns_kind (hE.ops p hp) e
    rw [hcc] at hc'; cases hc'
abbrev opsOf (PP : List (List PEnt)) : List Value := PP.flatMap (fun P => P.map (·.x))
/-- What was told, and copies of it. -/
structure Tl (w1 w : World) (tv wv : Value) (us cs : List Value) (PP CC : List (List PEnt)) : Prop where
  below : Below w1.heap.size w1 w
  row : w.ownsRow w1.heap.size 27 1 tv us.length us
  rowW : w.ownsRow w1.heap.size 27 1 wv cs.length cs
  ap : ∀ b, tv.ownBlock = some b → wv.ownBlock ≠ some b
  each : Es w us PP
  eachW : Es w cs CC
  lo : ∀ j, ToB us PP j → w1.heap.size ≤ j
  ndU : Nd us
  ndO : Nd (opsOf PP)
  zero : ∀ c C, cs[0]? = some c → CC[0]? = some C → ∀ j, EsB c C j → ¬ ToB us PP j
theorem Tl.start (w1 : World) : Tl w1 w1 (.slice none 0 0) (.slice none 0 0) [] [] [] [] :=
  ⟨Below.refl _ _, World.ownsRow_nil _ _ _ _, World.ownsRow_nil _ _ _ _, (fun b hb => by cases hb), ⟨rfl, fun k u P h => by simp at h⟩, ⟨rfl, fun k u P h => by simp at h⟩, (fun j ⟨k, u, P, h, _⟩ => by simp at h), Nd.nil, Nd.nil, fun c C h => by simp at h⟩
theorem Tl.ext {w1 w w' : World} {tv wv : Value} {us cs : List Value} {PP CC : List (List PEnt)} (h : Tl w1 w tv wv us cs PP CC) (hb : Below w.heap.size w w') : Tl w1 w' tv wv us cs PP CC :=
  ⟨trans2 h.below hb, owns_below h.row hb, owns_below h.rowW hb, h.ap, ⟨h.each.1, fun k u P hu hP => (h.each.2 k u P hu hP).belowB hb⟩, ⟨h.eachW.1, fun k u P hu hP => (h.eachW.2 k u P hu hP).belowB hb⟩, h.lo, h.ndU, h.ndO, h.zero⟩
theorem ops_mem {PP : List (List PEnt)} {v : Value} (h : v ∈ opsOf PP) : ∃ (k : Nat) (P : List PEnt), PP[k]? = some P ∧ ∃ p ∈ P, p.x = v := by
  obtain ⟨P, hP, hv⟩ := List.mem_flatMap.1 h
  obtain ⟨p, hp, rfl⟩ := List.mem_map.1 hv
  obtain ⟨k, hk⟩ := List.getElem?_of_mem hP
  exact ⟨k, P, hk, p, hp, rfl⟩
theorem us_at {us : List Value} {PP : List (List PEnt)} (hl : us.length = PP.length) {k : Nat} {P : List PEnt} (h : PP[k]? = some P) : ∃ u, us[k]? = some u := ⟨us[k]'(by rw [hl]; exact (List.getElem?_eq_some_iff.1 h).1), List.getElem?_eq_getElem _⟩
theorem pp_at {us : List Value} {PP : List (List PEnt)} (hl : us.length = PP.length) {k : Nat} {u : Value} (h : us[k]? = some u) : ∃ P, PP[k]? = some P := ⟨PP[k]'(by rw [← hl]; exact (List.getElem?_eq_some_iff.1 h).1), List.getElem?_eq_getElem _⟩
/-- A list more was told: new memory behind the size s. -/
theorem Tl.told {w1 w w2 w3 : World} {tv tv' wv v : Value} {us cs : List Value} {PP CC : List (List PEnt)} {P : List PEnt} (h : Tl w1 w tv wv us cs PP CC) (hb : Below w.heap.size w w2) (hE : EntsAt w2 v P) (hN : NdE w.heap.size v P) (hr : w3.ownsRow w1.heap.size 27 1 tv' (us.length + 1) (us ++ [v])) (hg : w2.grownBy w3 tv.ownBlock) (ho : tv'.ownBlock = tv.ownBlock ∨ tv'.ownBlock = some w2.heap.size) : Tl w1 w3 tv' wv (us ++ [v]) cs (PP ++ [P]) CC := by
  have h2 := h.ext hb
  have hc := Chg.grown hg
  have hnew : ∀ j, EsB v P j → w.heap.size ≤ j := fun j hj => by
    rcases hj with e | ⟨p, hp, e⟩
    · exact hN.row j e
    · exact hN.lo p hp j e
  refine ⟨h2.below.trans (hc.below h2.below.size (fun k _ e => (h2.row.lt k e).1)), by rw [List.length_append]; exact hr, owns_same h2.rowW (fun k e => hc.block k (h2.rowW.lt k e).2 (fun e' => h2.ap k e' e)), fun b hb' hw => ?_, ?_, ?_, fun j hj => ?_, ?_, ?_, fun c C hc0 hC0 j hj ht => ?_⟩
  · rcases ho with e | e
    · rw [e] at hb'; exact h2.ap b hb' hw
    · rw [e] at hb'; cases hb'; have := (h2.rowW.lt _ hw).2; omega
  · exact Es.push ⟨h2.each.1, fun k u Q hu hQ => ents_rows (h2.each.2 k u Q hu hQ) hc h2.row⟩ (ents_rows hE hc h2.row)
  · exact ⟨h2.eachW.1, fun k u Q hu hQ => ents_rows (h2.eachW.2 k u Q hu hQ) hc h2.row⟩
  · rcases toB_push h.each.1 hj with hj | hj
    · exact h.lo j hj
    · exact Nat.le_trans h.below.size (hnew j hj)
  · refine h.ndU.app (Nd.one v) w.heap.size (fun u hu b hub => ?_) (fun u hu b hub => ?_)
    · obtain ⟨k, hk⟩ := List.getElem?_of_mem hu
      obtain ⟨Q, hQ⟩ := pp_at h.each.1 hk
      exact h.each.lt b ⟨k, u, Q, hk, hQ, .inl hub⟩
    · obtain rfl : u = v := by simpa using hu
      exact hN.row b hub
  · have e1 : opsOf (PP ++ [P]) = opsOf PP ++ P.map (·.x) := by simp [opsOf]
    rw [e1]
    refine h.ndO.app (fun i j a c b ha hc' hab hcb => ?_) w.heap.size (fun u hu b hub => ?_) (fun u hu b hub => ?_)
    · rw [List.getElem?_map] at ha hc'
      obtain ⟨p, hp, rfl⟩ := Option.map_eq_some_iff.1 ha
      obtain ⟨q, hq, rfl⟩ := Option.map_eq_some_iff.1 hc'
      exact hN.nd i j p q b hp hq hab hcb
    · obtain ⟨k, Q, hQ, p, hp, rfl⟩ := ops_mem hu
      obtain ⟨u, hu'⟩ := us_at h.each.1 hQ
      exact h.each.lt b ⟨k, u, Q, hu', hQ, .inr ⟨p, hp, hub⟩⟩
    · obtain ⟨p, hp, rfl⟩ := List.mem_map.1 hu
      exact hN.lo p hp b hub
  · rcases toB_push h.each.1 ht with ht | ht
    · exact h.zero c C hc0 hC0 j hj ht
    · have h9 := hnew j ht
      have h8 := (h.eachW.2 0 c C hc0 hC0).ltB j hj
      omega
/-- A copy more. -/
theorem Tl.was {w1 w w2 w3 : World} {tv wv wv' c : Value} {us cs : List Value} {PP CC : List (List PEnt)} {C : List PEnt} (h : Tl w1 w tv wv us cs PP CC) (hb : Below w.heap.size w w2) (hE : EntsAt w2 c C) (hnew : ∀ j, EsB c C j → w.heap.size ≤ j) (hr : w3.ownsRow w1.heap.size 27 1 wv' (cs.length + 1) (cs ++ [c])) (hg : w2.grownBy w3 wv.ownBlock) (ho : wv'.ownBlock = wv.ownBlock ∨ wv'.ownBlock = some w2.heap.size) : Tl w1 w3 tv wv' us (cs ++ [c]) PP (CC ++ [C]) := by
  have h2 := h.ext hb
  have hc := Chg.grown hg
  refine ⟨h2.below.trans (hc.below h2.below.size (fun k _ e => (h2.rowW.lt k e).1)), owns_same h2.row (fun k e => hc.block k (h2.row.lt k e).2 (fun e' => h2.ap k e e')), by rw [List.length_append]; exact hr, fun b hb' hw => ?_, ?_, ?_, h.lo, h.ndU, h.ndO, fun c' C' hc0 hC0 j hj ht => ?_⟩
  · rcases ho with e | e
    · rw [e] at hw; exact h2.ap b hb' hw
    · rw [e] at hw; cases hw; have := (h2.row.lt _ hb').2; omega
  · exact ⟨h2.each.1, fun k u Q hu hQ => ents_rows (h2.each.2 k u Q hu hQ) hc h2.rowW⟩
  · exact Es.push ⟨h2.eachW.1, fun k u Q hu hQ => ents_rows (h2.eachW.2 k u Q hu hQ) hc h2.rowW⟩ (ents_rows hE hc h2.rowW)
  · rcases snoc_at hc0 with hc0' | ⟨hk, rfl⟩
    · rcases snoc_at hC0 with hC0' | ⟨hk, rfl⟩
      · exact h.zero c' C' hc0' hC0' j hj ht
      · have := (List.getElem?_eq_some_iff.1 hc0').1
        have := h.eachW.1
        omega
    · rcases snoc_at hC0 with hC0' | ⟨_, rfl⟩
      · have := (List.getElem?_eq_some_iff.1 hC0').1
        have := h.eachW.1
        omega
      · have h9 := hnew j hj
        have h8 := h.each.lt j ht
        omega
end Go.Proofs.Ytnmengoefpdaiaa.I
