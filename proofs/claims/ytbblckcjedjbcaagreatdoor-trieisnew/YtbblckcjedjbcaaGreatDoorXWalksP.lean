import Derived.Test.YtbblckcjedjbcaaGreatDoorXAtD
import Derived.Test.YtbblckcjedjbcaaGreatDoorXFit
namespace Go.Proofs.YtbblckcjedjbcaaGreatDoor
open Go.RowKit Go.Maps
set_option linter.unusedVariables false
set_option linter.unusedSimpArgs false

def Tail (r : List UInt8) : Prop := r = [] ∨ ∃ r', r = 47 :: r'
theorem ord_tail : ∀ (n m : List UInt8), (∀ b ∈ n, b ≠ 47) → (∀ b ∈ m, b ≠ 47) → ordL n m = -1 → ∀ r t, Tail r → ordL (n ++ r) (m ++ t) = -1
  | [], [], _, _, h, _, _, _ => by simp [ordL] at h
  | [], y :: ys, _, hm, _, r, t, hr => by
    rcases hr with rfl | ⟨r', rfl⟩
    · rfl
    · have hy : y ≠ 47 := hm y (by simp)
      have hy' : ¬ ((47 : UInt8).toNat = y.toNat) := fun e => hy (UInt8.toNat_inj.1 e).symm
      have hy2 : ¬ (y.toNat = 47) := fun e => hy' e.symm
      show ordL (47 :: r') (y :: (ys ++ t)) = -1
      rw [ordL, if_neg hy']
      unfold sg rk
      have h47 : (47 : UInt8).toNat = 47 := rfl
      rw [if_pos h47, if_neg hy2, if_pos (by omega)]
  | x :: xs, [], _, _, h, _, _, _ => by simp [ordL] at h
  | x :: xs, y :: ys, hn, hm, h, r, t, hr => by
    show ordL (x :: (xs ++ r)) (y :: (ys ++ t)) = -1
    rw [ordL] at h ⊢
    by_cases e : x.toNat = y.toNat
    · rw [if_pos e] at h ⊢
      exact ord_tail xs ys (fun b hb => hn b (by simp [hb])) (fun b hb => hm b (by simp [hb])) h r t hr
    · rw [if_neg e] at h ⊢
      exact h
theorem ordX_app : ∀ (p r t : List UInt8), ordL (p ++ r) (p ++ t) = ordL r t
  | [], _, _ => rfl
  | x :: p, r, t => by
    show ordL (x :: (p ++ r)) (x :: (p ++ t)) = _
    rw [ordL, if_pos rfl, ordX_app p r t]
theorem flat_tail (xs : List ByteArray) : Tail (flatN xs) := by
  cases xs with
  | nil => exact .inl rfl
  | cons x xs => exact .inr ⟨_, rfl⟩
theorem flat_split (c : Way) (n : ByteArray) (p : Way) : flatN (c ++ n :: p) = flatN c ++ 47 :: (n.data.toList ++ flatN p) := by
  unfold flatN
  rw [List.flatMap_append, List.flatMap_cons]
  rfl
/-- Two ways that part at a name. -/
theorem ord_part (c p q : Way) (n m : ByteArray) (hn : isNm n = true) (hm : isNm m = true) (h : ordL n.data.toList m.data.toList = -1) : ordL (flatN (c ++ n :: p)) (flatN (c ++ m :: q)) = -1 := by
  rw [flat_split, flat_split, ordX_app, ordL, if_pos rfl]
  exact ord_tail _ _ (nm_noslash hn) (nm_noslash hm) h _ _ (flat_tail p)
theorem ordX_pre : ∀ (s t : List UInt8), t ≠ [] → ordL s (s ++ t) = -1
  | [], [], h => absurd rfl h
  | [], _ :: _, _ => rfl
  | x :: s, t, h => by
    show ordL (x :: s) (x :: (s ++ t)) = -1
    rw [ordL, if_pos rfl]
    exact ordX_pre s t h
theorem place_flat {xs : Way} (h : xs ≠ []) : (placeB xs).data.toList = flatN xs := by
  rw [placeB, if_neg h, data_mk]
/-- A way and one below it. -/
theorem ord_below (c q : Way) (m : ByteArray) (hm : isNm m = true) : ordL (placeB c).data.toList (placeB (c ++ m :: q)).data.toList = -1 := by
  rw [place_flat (xs := c ++ m :: q) (by simp)]
  by_cases h : c = []
  · subst h
    rw [placeB, if_pos rfl, data_mk, flat_split]
    show ordL [47] (47 :: (m.data.toList ++ flatN q)) = -1
    rw [ordL, if_pos rfl]
    have := nm_nonempty hm
    cases hd : m.data.toList with
    | nil => exact absurd hd this
    | cons a b => rfl
  · rw [place_flat h, flat_split]
    exact ordX_pre _ _ (by simp)
end Go.Proofs.YtbblckcjedjbcaaGreatDoor
namespace Go.Proofs.YtbblckcjedjbcaaGreatDoor
open Go.RowKit Go.Maps
set_option linter.unusedVariables false
set_option linter.unusedSimpArgs false

def OrdW (a b : He) : Prop := ordL a.p.data.toList b.p.data.toList = -1 ∨ (a.p = b.p ∧ befH a b = true)
theorem he_place {h : He} (hk : parse h.p = (0, h.way)) : h.p = placeB h.way := (parse_back hk).symm
theorem he_names {h : He} (hk : parse h.p = (0, h.way)) : ∀ n ∈ h.way, isNm n = true := fun n hn => List.all_eq_true.1 (parse_len hk).2 n hn
theorem wayPre_split {p q : Way} {l : List UInt8} (h : wayOf p l <+: q) : ∃ r, q = p ++ ⟨l.toArray⟩ :: r := by
  obtain ⟨r, rfl⟩ := h
  exact ⟨r, by unfold wayOf; simp⟩
theorem sort_lt {D : List Way} (hd : D.Nodup) (p : Way) : (sortX (kidsB D p)).Pairwise (fun a b => ordL a b = -1) := by
  have h1 := sortX_asc (kidsB D p)
  have h2 : (sortX (kidsB D p)).Nodup := (sortX_perm _).nodup_iff.2 (kidsB_nodup hd p)
  refine List.Pairwise.imp (fun {a b} hab => ?_) (List.Pairwise.and h1 h2)
  rcases ordL_range a b with e | e | e
  · exact e
  · exact absurd (ordL_zero _ _ e) hab.2
  · exact absurd e hab.1
theorem all_ord (D : List Way) (hs : List He) (hd0 : D.Nodup) (ho : Ord hs) (hup : ∀ p n, p ++ [n] ∈ D → p ∈ D) (hin : ∀ x ∈ hs, x.way ∈ D) (hok : ∀ x ∈ hs, parse x.p = (0, x.way)) : ∀ (d : Nat) (p : Way), (∀ q ∈ D, p <+: q → q.length ≤ p.length + d) → (allH D hs d p).Pairwise OrdW := by
  have step : ∀ (p : Way) (R : Way → List He), (∀ l ∈ kidsB D p, ∀ x, x ∈ R (wayOf p l) → x ∈ hs ∧ wayOf p l <+: x.way) → (∀ l ∈ kidsB D p, (R (wayOf p l)).Pairwise OrdW) → (allS D hs p R).Pairwise OrdW := by
    intro p R hR hN
    unfold allS
    refine List.pairwise_append.2 ⟨?_, ?_, ?_⟩
    · refine List.Pairwise.imp_of_mem (fun {a b} ha hb hab => .inr ⟨?_, hab⟩) (List.Pairwise.filter _ ho)
      have ha' := here_mem.1 ha
      have hb' := here_mem.1 hb
      rw [he_place (hok a ha'.1), he_place (hok b hb'.1), ha'.2, hb'.2]
    · refine List.pairwise_flatMap.2 ⟨fun l hl => hN l ((sortX_perm _).mem_iff.1 hl), ?_⟩
      refine List.Pairwise.imp_of_mem (fun {a b} ha hb hab x hx z hz => .inl ?_) (sort_lt hd0 p)
      obtain ⟨x1, x2⟩ := hR a ((sortX_perm _).mem_iff.1 ha) x hx
      obtain ⟨z1, z2⟩ := hR b ((sortX_perm _).mem_iff.1 hb) z hz
      obtain ⟨r, hr⟩ := wayPre_split x2
      obtain ⟨t, ht⟩ := wayPre_split z2
      have nx := he_names (hok x x1) ⟨a.toArray⟩ (by rw [hr]; simp)
      have nz := he_names (hok z z1) ⟨b.toArray⟩ (by rw [ht]; simp)
      rw [he_place (hok x x1), he_place (hok z z1), hr, ht, place_flat (by simp), place_flat (by simp)]
      exact ord_part p r t _ _ nx nz (by simpa using hab)
    · intro a ha z hz
      obtain ⟨l, hl, hx⟩ := List.mem_flatMap.1 hz
      obtain ⟨z1, z2⟩ := hR l ((sortX_perm _).mem_iff.1 hl) z hx
      obtain ⟨t, ht⟩ := wayPre_split z2
      have nz := he_names (hok z z1) ⟨l.toArray⟩ (by rw [ht]; simp)
      have ha' := here_mem.1 ha
      refine .inl ?_
      rw [he_place (hok a ha'.1), he_place (hok z z1), ha'.2, ht]
      exact ord_below p t _ nz
  intro d
  induction d with
  | zero =>
    intro p hd
    have hno : ∀ l ∈ kidsB D p, False := fun l hl => by
      have := hd _ (way_kid hl) (List.prefix_append p _)
      rw [wayOf, List.length_append, List.length_singleton] at this
      omega
    exact step p _ (fun l hl => (hno l hl).elim) (fun l hl => (hno l hl).elim)
  | succ d ih =>
    intro p hd
    have hdk : ∀ l, ∀ q ∈ D, wayOf p l <+: q → q.length ≤ (wayOf p l).length + d := fun l q hq hq2 => by
      have h1 := hd q hq ((List.prefix_append p _).trans hq2)
      rw [wayOf, List.length_append, List.length_singleton]
      omega
    exact step p _ (fun l hl x hx => (all_mem D hs hup hin d (wayOf p l) (hdk l) x).1 hx) (fun l hl => ih _ (hdk l))
/-- By places, then sessions, then ids. -/
def OrdP (a b : On) : Prop := ordL a.p.data.toList b.p.data.toList = -1 ∨ (a.p = b.p ∧ befO a b = true)
theorem walkO_ord {w : World} {K : Nat → Prop} {B : Nat} {L : List On} (hA : At w K B L) : (walkO L).Pairwise OrdP := by
  obtain ⟨y, D, σ, τ, hs, hT, rfl, hK, hH, hZ⟩ := hA
  rw [← wk_on hT]
  refine List.pairwise_map.2 ?_
  exact all_ord D hs hT.tr.dn hT.tr.ord hT.tr.up hT.way_in hT.ok 6 [] (wk_len hT)
end Go.Proofs.YtbblckcjedjbcaaGreatDoor
namespace Go.Proofs.YtbblckcjedjbcaaGreatDoor
open Go.RowKit Go.Maps
set_option linter.unusedVariables false
set_option linter.unusedSimpArgs false

theorem Fit.sub {T U : List On} (h : Fit T) (hs : U.Sublist T) : Fit U :=
  ⟨fun o ho => h.ok o (hs.subset ho), h.key.sublist hs, fun s => Nat.le_trans ((hs.filter _).length_le) (h.few s)⟩
theorem ofO_sub (L : List On) (s : Int) : (ofO L s).Sublist L := List.filter_sublist
/-- The tags of one session are those that its watches alone have. -/
theorem mat_part (L : List On) (stamp ck : Int) (cp : ByteArray) (s : Int) : (matO L stamp ck cp).filter (fun t => decide (t.1 = s)) = matO (ofO L s) stamp ck cp := by
  unfold matO ofO
  rw [List.filter_map, List.filter_filter, List.filter_filter]
  congr 1
  refine List.filter_congr (fun x _ => ?_)
  simp [Bool.and_comm]
theorem ofO_ids {L : List On} (ho : OrdO L) (s : Int) : (ofO L s).Pairwise (fun a b => a.i < b.i) := by
  refine List.Pairwise.imp_of_mem (fun {a b} ha hb hab => ?_) (List.Pairwise.filter (fun o => decide (o.s = s)) ho)
  have h1 : a.s = s := by simpa using (List.mem_filter.1 ha).2
  have h2 : b.s = s := by simpa using (List.mem_filter.1 hb).2
  unfold befO befB at hab
  rw [h1, h2] at hab
  simpa using hab
theorem was_at {L : List On} {s : Int} {k : Nat} {x : Wa} (h : (wasO L s)[k]? = some x) : ∃ o, (ofO L s)[k]? = some o ∧ o.wa = x ∧ o.s = s := by
  unfold wasO at h
  rw [List.getElem?_map] at h
  cases ho : (ofO L s)[k]? with
  | none => rw [ho] at h; cases h
  | some o =>
    rw [ho] at h
    refine ⟨o, rfl, by simpa using h, ?_⟩
    have := List.mem_of_getElem? ho
    simpa using (List.mem_filter.1 this).2
end Go.Proofs.YtbblckcjedjbcaaGreatDoor
