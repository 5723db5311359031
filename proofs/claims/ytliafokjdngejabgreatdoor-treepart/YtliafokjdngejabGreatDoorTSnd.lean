/-
  tree: a tree that came of requests: the root, every parent there and not brief.
-/
import Derived.Test.YtliafokjdngejabGreatDoorTEnd
namespace Go.Proofs.YtliafokjdngejabGreatDoor
open Go.RowKit Go.Maps Go.WideShapes
set_option linter.unusedVariables false
set_option linter.unusedSimpArgs false

abbrev pRt : ByteArray := ⟨#[47]⟩
structure Snd (T : List Nd) : Prop where
  inv : Inv T
  root : ∃ r ∈ T, r.p = pRt ∧ r.o = 0
  up : ∀ x ∈ T, x.p ≠ pRt → ∃ u ∈ T, u.p = parB x.p ∧ u.o = 0
theorem Snd.ne {T : List Nd} (h : Snd T) : T ≠ [] := fun e => by
  obtain ⟨r, hr, _⟩ := h.root
  rw [e] at hr
  cases hr
theorem par_of {s : ByteArray} {xs : List ByteArray} {c : Int} {x : ByteArray} {k : Nat} (h : parse s = (c, xs)) (hk : xs.length = k + 1) : parB s = placeB (xs.take k) := by
  unfold parB
  rw [h]
  cases xs with
  | nil => simp at hk
  | cons y r =>
    have : r.length = k := by simpa using hk
    simp [this]
theorem par_counted {p : ByteArray} {f k : Int} (hp : (parse p).1 = 0) (hr : p ≠ pRt) (hl : 2 ≤ f → (lastN p).size ≤ 11) : parB (atOf p f k) = parB p := by
  unfold atOf
  split
  · rename_i h2
    obtain ⟨xs, j, x, hx, hxl, hxk, hlx⟩ := names_of hp hr
    have h1 := counted_parse hx j hxl x hxk (by rw [← hlx]; exact hl h2) k.toNat
    have hlen : (xs.take j ++ [mk (x.data.toList ++ five k.toNat)]).length = j + 1 := by simp; omega
    rw [par_of (x := x) h1 hlen, par_of (x := x) hx hxl]
    congr 1
    rw [List.take_append_of_le_length (by simp; omega), List.take_take, Nat.min_self]
  · rfl
/-- Who lies directly below is a child. -/
theorem kid_of_par {x u : ByteArray} (hx : (parse x).1 = 0) (hu : (parse u).1 = 0) (hr : x ≠ pRt) (hp : parB x = u) : covers 2 u 1 x = true := by
  obtain ⟨xs, j, y, hxs, hxl, hxk, hlx⟩ := names_of hx hr
  have h1 := par_of (x := y) hxs hxl
  have hne : xs.isEmpty = false := by cases xs with | nil => simp at hxl | cons _ _ => rfl
  have hc : childB u x = true := by
    unfold childB
    rw [hxs]
    simp only [hne, hxl, Nat.add_sub_cancel]
    rw [← h1, hp]
    simp
  unfold covers isP okC cov
  rw [hc]
  simp [hx, hu]
theorem upd_mem {T : List Nd} {y z : Nd} (h : z ∈ upd T y) : (z ∈ T ∧ z.p ≠ y.p) ∨ z = y := by
  obtain ⟨x, hx, rfl⟩ := List.mem_map.1 h
  by_cases e : x.p = y.p
  · rw [if_pos e]; exact .inr rfl
  · rw [if_neg e]; exact .inl ⟨hx, e⟩
theorem mem_upd {T : List Nd} {y u : Nd} (hu : u ∈ T) (hp : u.p = y.p) : y ∈ upd T y := List.mem_map.2 ⟨u, hu, by rw [if_pos hp]⟩
theorem mem_upd_ne {T : List Nd} {y u : Nd} (hu : u ∈ T) (hp : u.p ≠ y.p) : u ∈ upd T y := List.mem_map.2 ⟨u, hu, by rw [if_neg hp]⟩
/-- Places and owners stay. -/
theorem Snd.upd {T : List Nd} (h : Snd T) {y u : Nd} (hu : u ∈ T) (hp : u.p = y.p) (ho : u.o = y.o) (hi : Inv (upd T y)) : Snd (upd T y) := by
  have nd : ∀ z ∈ T, z.p = y.p → z = u := fun z hz e => by
    have hs := h.inv.srt
    have hnd : ∀ a ∈ T, ∀ b ∈ T, a.p = b.p → a = b := by
      intro a ha b hb e
      obtain ⟨i, hi, rfl⟩ := List.mem_iff_getElem.1 ha
      obtain ⟨j, hj, rfl⟩ := List.mem_iff_getElem.1 hb
      rcases Nat.lt_trichotomy i j with hij | hij | hij
      · have := List.pairwise_iff_getElem.1 hs i j hi hj hij
        rw [e, O_self] at this
        cases this
      · subst hij; rfl
      · have := List.pairwise_iff_getElem.1 hs j i hj hi hij
        rw [e, O_self] at this
        cases this
    exact hnd z hz u hu (e.trans hp.symm)
  have keep : ∀ q, (∃ z ∈ T, z.p = q ∧ z.o = 0) → ∃ z ∈ Go.Proofs.YtliafokjdngejabGreatDoor.upd T y, z.p = q ∧ z.o = 0 := by
    rintro q ⟨z, hz, e, e0⟩
    by_cases hz2 : z.p = y.p
    · obtain rfl := nd z hz hz2
      exact ⟨y, mem_upd hz hp, hp ▸ e, ho ▸ e0⟩
    · exact ⟨z, mem_upd_ne hz hz2, e, e0⟩
  refine ⟨hi, keep _ h.root, fun x hx hr => ?_⟩
  rcases upd_mem hx with ⟨hx, _⟩ | rfl
  · exact keep _ (h.up x hx hr)
  · rw [← hp] at hr ⊢
    exact keep _ (h.up u hu hr)
theorem Snd.one {T : List Nd} (h : Snd T) (s st : Int) (o : OpT) : Snd (oneM T s st o).2.1 := by
  have hinv := oneM_inv h.inv s st o
  revert hinv
  unfold oneM
  split
  · exact fun _ => h
  rename_i hc
  have hc : malC s o.k o.p o.d o.f = 0 := by simpa using hc
  obtain ⟨hk1, hk7, hp0, hd2, _⟩ := mal_ok hc
  split
  · rename_i h1
    unfold makeM
    split
    · exact fun _ => h
    rename_i u hfu
    have hu := fnd_some hfu
    have hun := h.inv.nd u hu.1
    split
    · exact fun _ => h
    rename_i huo
    have huo : u.o = 0 := by simpa using huo
    split
    · exact fun _ => h
    rename_i hfull
    split
    · exact fun _ => h
    rename_i hfa
    split
    · exact fun _ => h
    rename_i hlen
    rw [h1] at hc
    obtain ⟨hf, _, hlast, hroot, hd⟩ := mal_ok1 hc
    intro hinv
    have hui : Inv (Go.Proofs.YtliafokjdngejabGreatDoor.upd T { u with k := if 2 ≤ o.f then u.k + 1 else u.k }) := h.inv.upd ⟨hun.1, hun.2.1, hun.2.2.1, hun.2.2.2.1, by show 0 ≤ (if 2 ≤ o.f then u.k + 1 else u.k); split <;> omega, by show (if 2 ≤ o.f then u.k + 1 else u.k) ≤ 100000; split <;> omega⟩
    have hs := h.upd (y := { u with k := if 2 ≤ o.f then u.k + 1 else u.k }) hu.1 rfl rfl hui
    have keep : ∀ q, (∃ z ∈ Go.Proofs.YtliafokjdngejabGreatDoor.upd T { u with k := if 2 ≤ o.f then u.k + 1 else u.k }, z.p = q ∧ z.o = 0) → ∃ z ∈ ins ⟨atOf o.p o.f u.k, o.d, 0, st, st, if o.f % 2 = 1 then s else 0, 0⟩ (Go.Proofs.YtliafokjdngejabGreatDoor.upd T { u with k := if 2 ≤ o.f then u.k + 1 else u.k }), z.p = q ∧ z.o = 0 := by
      rintro q ⟨z, hz, e⟩
      exact ⟨z, (ins_perm _ _).mem_iff.2 (List.mem_cons_of_mem _ hz), e⟩
    refine ⟨hinv, keep _ hs.root, fun x hx hr => ?_⟩
    rcases List.mem_cons.1 ((ins_perm _ _).mem_iff.1 hx) with rfl | hx
    · have e1 : parB (atOf o.p o.f u.k) = parB o.p := par_counted hp0 hroot hlast
      have h9 := keep (parB o.p) ⟨_, mem_upd (y := { u with k := if 2 ≤ o.f then u.k + 1 else u.k }) hu.1 rfl, hu.2, huo⟩
      rw [← e1] at h9
      exact h9
    · exact keep _ (hs.up x hx hr)
  · rename_i h1
    split
    · exact fun _ => h
    rename_i x hf
    have hx := fnd_some hf
    split
    · exact fun _ => h
    rename_i hm
    have hm : misC o.k o.v x.v (kidsM T x.p) = 0 := by simpa using hm
    unfold restM
    split
    · exact fun hinv => h.upd (y := { x with d := o.d, v := x.v + 1, c := st }) hx.1 rfl rfl hinv
    split
    · rename_i h2 h3
      intro hinv
      have hkid : kidsM T x.p = [] := by
        rw [h3] at hm
        unfold misC at hm
        by_cases hk : kidsM T x.p = []
        · exact hk
        · exfalso
          split at hm
          · cases hm
          · rw [if_pos ⟨rfl, hk⟩] at hm
            cases hm
      have hroot : x.p ≠ pRt := fun e => by
        have e2 : o.p = pRt := hx.2 ▸ e
        rw [h3, e2] at hc
        unfold malC at hc
        rw [if_neg (by omega), if_neg (by omega)] at hc
        split at hc
        · cases hc
        · rw [if_pos ⟨.inr rfl, rfl⟩] at hc
          cases hc
      have hxp := (h.inv.nd x hx.1).1
      have keep : ∀ q, q ≠ x.p → (∃ z ∈ T, z.p = q ∧ z.o = 0) → ∃ z ∈ T.filter (fun y => decide (y.p ≠ x.p)), z.p = q ∧ z.o = 0 := by
        rintro q hq ⟨z, hz, e, e0⟩
        exact ⟨z, List.mem_filter.2 ⟨hz, by simpa [e] using hq⟩, e, e0⟩
      refine ⟨hinv, keep _ (fun e => hroot e.symm) h.root, fun y hy hr => ?_⟩
      obtain ⟨hy, hyx⟩ := List.mem_filter.1 hy
      refine keep _ (fun e => ?_) (h.up y hy hr)
      have hc2 := kid_of_par (h.inv.nd y hy).1 hxp hr e
      have hmem : y ∈ T.filter (kidP x.p) := by
        refine List.mem_filter.2 ⟨hy, ?_⟩
        unfold kidP wF
        rw [show (⟨(Nd.by y).toArray⟩ : ByteArray) = y.p from rfl, hc2]
        simpa using hyx
      have : kidsM T x.p ≠ [] := fun e9 => by
        unfold kidsM at e9
        rw [List.map_eq_nil_iff] at e9
        rw [e9] at hmem
        cases hmem
      exact this hkid
    · exact fun _ => h
theorem Snd.playL {T0 : List Nd} (h0 : Snd T0) (s st : Int) : ∀ (os : List OpT) (i : Nat) (T : List Nd) (R : List ResT) (C : List ChT), Snd T → Snd (playL T0 s st os i T R C).T
  | [], _, _, _, _, h => h
  | o :: r, i, T, R, C, h => by
    unfold Go.Proofs.YtliafokjdngejabGreatDoor.playL
    split
    · exact h0
    · exact Snd.playL h0 s st r _ _ _ _ (h.one s st o)
theorem Snd.play {T : List Nd} (h : Snd T) (s st : Int) (os : List OpT) : Snd (playM T s st os).T := by
  unfold playM
  split
  · exact h
  · exact h.playL s st os 0 T [] [] h
theorem Snd.fin {T : List Nd} (h : Snd T) {s : Int} (hs : 1 ≤ s) : Snd (endT T s) := by
  have keep : ∀ q, (∃ z ∈ T, z.p = q ∧ z.o = 0) → ∃ z ∈ endT T s, z.p = q ∧ z.o = 0 := by
    rintro q ⟨z, hz, e, e0⟩
    exact ⟨z, List.mem_filter.2 ⟨hz, by simp; omega⟩, e, e0⟩
  exact ⟨endT_inv h.inv s, keep _ h.root, fun x hx hr => keep _ (h.up x (List.mem_filter.1 hx).1 hr)⟩
/-- The new tree. -/
abbrev rootN : Nd := ⟨pRt, ⟨#[]⟩, 0, 0, 0, 0, 0⟩
theorem Snd.new : Snd [rootN] := by
  refine ⟨⟨List.pairwise_singleton _ _, by decide, fun x hx => ?_⟩, ⟨rootN, List.mem_singleton.2 rfl, rfl, rfl⟩, fun x hx hr => ?_⟩
  · obtain rfl := List.mem_singleton.1 hx
    exact ⟨by kernel_rfl, by decide, by decide, by decide, by decide, by decide⟩
  · obtain rfl := List.mem_singleton.1 hx
    exact absurd rfl hr
end Go.Proofs.YtliafokjdngejabGreatDoor
