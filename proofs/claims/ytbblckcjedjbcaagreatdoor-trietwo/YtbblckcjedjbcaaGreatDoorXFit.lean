import Derived.Test.YtbblckcjedjbcaaGreatDoorXLaid
import Derived.Test.YtbblckcjedjbcaaGreatDoorXSameE
namespace Go.Proofs.YtbblckcjedjbcaaGreatDoor
open Go.RowKit Go.Maps
set_option linter.unusedVariables false
set_option linter.unusedSimpArgs false

theorem insO_perm (o : On) (L : List On) : (insO o L).Perm (L ++ [o]) := by
  unfold insO
  exact List.perm_middle.trans (((part_perm (fun x => befO x o) L).cons o).trans (List.perm_append_singleton o L).symm)
theorem laid_perm_fold (L : List On) (acc : List On × List On) (h : acc.1.Perm acc.2) : (L.foldl laidF acc).1.Perm (L.foldl laidF acc).2 := by
  induction L generalizing acc with
  | nil => exact h
  | cons o r ih =>
    refine ih _ ?_
    unfold laidF
    split
    · exact (insO_perm o acc.1).trans (h.append (List.Perm.refl [o]))
    · exact h
theorem laid_perm (L : List On) : (laidR L).1.Perm (laidR L).2 := laid_perm_fold _ _ (List.Perm.refl _)
theorem OrdO.key {L : List On} (h : OrdO L) {x y : On} (hx : x ∈ L) (hy : y ∈ L) (hs : x.s = y.s) (hi : x.i = y.i) : x = y := by
  induction L with
  | nil => cases hx
  | cons a r ih =>
    have h1 := List.pairwise_cons.1 h
    rcases List.mem_cons.1 hx with rfl | hx'
    · rcases List.mem_cons.1 hy with rfl | hy'
      · rfl
      · have := h1.1 y hy'
        rw [befO, hs, hi, bef_irr] at this
        cases this
    · rcases List.mem_cons.1 hy with rfl | hy'
      · have := h1.1 x hx'
        rw [befO, hs, hi, bef_irr] at this
        cases this
      · exact ih h1.2 hx' hy'
theorem mat_has {L : List On} (ho : OrdO L) {stamp ck : Int} {cp : ByteArray} {x : On} (hx : x ∈ L) : (matO L stamp ck cp).any (fun t => decide (t.1 = x.s) && decide (t.2 = x.i)) = matB stamp ck cp x := by
  rw [Bool.eq_iff_iff, List.any_eq_true]
  constructor
  · rintro ⟨t, ht, h⟩
    simp only [Bool.and_eq_true, decide_eq_true_eq] at h
    unfold matO at ht
    obtain ⟨z, hz, rfl⟩ := List.mem_map.1 ht
    obtain ⟨h1, h2⟩ := List.mem_filter.1 hz
    have := ho.key h1 hx h.1 h.2
    rw [← this]
    exact h2
  · intro h
    exact ⟨(x.s, x.i), List.mem_map.2 ⟨x, List.mem_filter.2 ⟨hx, h⟩, rfl⟩, by simp⟩
theorem mat_asc {L : List On} (ho : OrdO L) (stamp ck : Int) (cp : ByteArray) : (matO L stamp ck cp).Pairwise (fun a b => befT a b = true) := by
  unfold matO
  rw [List.pairwise_map]
  exact List.Pairwise.filter _ ho
theorem mat_len {L M : List On} (hp : L.Perm M) (stamp ck : Int) (cp : ByteArray) : (M.filter (matB stamp ck cp)).length = (matO L stamp ck cp).length := by
  unfold matO
  rw [List.length_map]
  exact (hp.filter _).length_eq.symm
theorem filt_next {M : List On} {j : Nat} {x : On} (hx : M[j]? = some x) (P : On → Bool) : ((M.take (j + 1)).filter P).length = ((M.take j).filter P).length + (if P x then 1 else 0) := by
  have h1 : M.take (j + 1) = M.take j ++ [x] := by rw [List.take_add_one, hx]; rfl
  rw [h1, List.filter_append, List.length_append]
  by_cases h : P x
  · simp [h]
  · simp [h]
theorem any_next {M : List Tg} {j : Nat} {x : Tg} (hx : M[j]? = some x) (P : Tg → Bool) : (M.take (j + 1)).any P = ((M.take j).any P || P x) := by
  have h1 : M.take (j + 1) = M.take j ++ [x] := by rw [List.take_add_one, hx]; rfl
  rw [h1, List.any_append]
  simp
theorem os_of_row {w : World} {B : Nat} {v : Value} {L : List On} (h : w.ownsRow B 42 5 v L.length (onCs L)) : ∃ a c, v = .slice a L.length c ∧ OsAt w a L := by
  obtain ⟨a, c, rfl⟩ := owns_shape h
  refine ⟨a, c, rfl, ?_⟩
  rcases h.2 with ⟨h0, h1⟩ | ⟨g, cap, cur, hv, _, hg, _⟩
  · exact .inl (by simpa using h1)
  · have hv' := hv
    simp only [Value.slice.injEq] at hv'
    obtain ⟨rfl, _, rfl⟩ := hv'
    exact .inr ⟨g, 0, rfl, lt_of_blk hg, fun j t x v hx hv => by rw [Nat.zero_add]; exact cell_n h (onCs_at L j t x v hx hv)⟩
theorem fill4n {w : World} {g : Nat} {t : TypeId} {x0 x1 x2 x3 y0 y1 y2 y3 : Value} (h : w.heap[g]? = some (.cells #[y0, y1, y2, y3] t (0, 0))) : ((((w.setCell ⟨g, 0, none⟩ x0).setCell ⟨g, 1, none⟩ x1).setCell ⟨g, 2, none⟩ x2).setCell ⟨g, 3, none⟩ x3).heap[g]? = some (.cells #[x0, x1, x2, x3] t (0, 0)) := by
  have h0 := same_blk (i := 0) (v := x0) (cs' := #[x0, y1, y2, y3]) h rfl
  have h1 := same_blk (i := 1) (v := x1) (cs' := #[x0, x1, y2, y3]) h0 rfl
  have h2 := same_blk (i := 2) (v := x2) (cs' := #[x0, x1, x2, y3]) h1 rfl
  exact same_blk (i := 3) (v := x3) (cs' := #[x0, x1, x2, x3]) h2 rfl
end Go.Proofs.YtbblckcjedjbcaaGreatDoor
namespace Go.Proofs.YtbblckcjedjbcaaGreatDoor
open Go.RowKit Go.Maps
set_option linter.unusedVariables false
set_option linter.unusedSimpArgs false

/-- Places in memory. -/
def PsAt (w : World) (a : Option Addr) (ps : List ByteArray) : Prop := ps = [] ∨ ∃ b o, a = some ⟨b, o, none⟩ ∧ b < w.heap.size ∧ ∀ (j : Nat) (x : ByteArray), ps[j]? = some x → w.cell? ⟨b, o + j, none⟩ = some (.string x)
theorem PsAt.below {w w' : World} {a : Option Addr} {ps : List ByteArray} (h : PsAt w a ps) (hb : Below w.heap.size w w') : PsAt w' a ps := by
  rcases h with h | ⟨b, o, e, hl, hc⟩
  · exact .inl h
  · exact .inr ⟨b, o, e, Nat.lt_of_lt_of_le hl hb.size, fun j x hx => by rw [hb.cell (p := ⟨b, o + j, none⟩) hl]; exact hc j x hx⟩
theorem PsAt.at {w : World} {a : Option Addr} {ps : List ByteArray} (h : PsAt w a ps) {j : Nat} {x : ByteArray} (hx : ps[j]? = some x) : ∃ b o, a = some ⟨b, o, none⟩ ∧ w.cell? ⟨b, o + j, none⟩ = some (.string x) := by
  rcases h with rfl | ⟨b, o, e, hl, hc⟩
  · simp at hx
  · exact ⟨b, o, e, hc j x hx⟩
theorem ofO_len (L : List On) (s : Int) : (wasO L s).length ≤ L.length := by
  unfold wasO ofO
  rw [List.length_map]
  exact List.length_filter_le _ _
theorem matO_len (L : List On) (stamp ck : Int) (cp : ByteArray) : (matO L stamp ck cp).length ≤ L.length := by
  unfold matO
  rw [List.length_map]
  exact List.length_filter_le _ _
end Go.Proofs.YtbblckcjedjbcaaGreatDoor
namespace Go.Proofs.YtbblckcjedjbcaaGreatDoor
open Go.RowKit Go.Maps
set_option linter.unusedVariables false
set_option linter.unusedSimpArgs false

theorem len_parts (f : On → Bool) (L : List On) : L.length = (L.filter f).length + (L.filter (fun x => !f x)).length := by
  have := (part_perm f L).length_eq
  rw [List.length_append] at this
  exact this.symm
def OkO (o : On) : Prop := numsB o.s o.i o.f = false ∧ (parse o.p).1 = 0 ∧ ¬ (o.k < 1 ∨ o.k > 3)
structure Fit (T : List On) : Prop where
  ok : ∀ o ∈ T, OkO o
  key : T.Pairwise (fun a b => ¬ (a.s = b.s ∧ a.i = b.i))
  few : ∀ s, (ofO T s).length ≤ 4
theorem Fit.perm {T U : List On} (h : Fit T) (p : T.Perm U) : Fit U :=
  ⟨fun o ho => h.ok o (p.mem_iff.2 ho), (p.pairwise_iff (fun {a b} hab e => hab ⟨e.1.symm, e.2.symm⟩)).1 h.key, fun s => by
    have : (ofO U s).length = (ofO T s).length := ((p.filter _).length_eq).symm
    rw [this]
    exact h.few s⟩
theorem add_zero {L : List On} {o : On} : addC L o = 0 ↔ OkO o ∧ hasO L o.s o.i = false ∧ (ofO L o.s).length < 4 := by
  unfold addC OkO
  cases h1 : numsB o.s o.i o.f with
  | true => simp
  | false =>
    by_cases h2 : (parse o.p).1 = 0
    · by_cases h3 : o.k < 1 ∨ o.k > 3
      · have : o.k < 1 ∨ o.k > 3 ∨ hasO L o.s o.i = true := by rcases h3 with h | h; exact .inl h; exact .inr (.inl h)
        simp [h2, h3, this]
      · have h3a : ¬ o.k < 1 := fun h => h3 (.inl h)
        have h3b : ¬ o.k > 3 := fun h => h3 (.inr h)
        cases h4 : hasO L o.s o.i with
        | true => simp [h2, h3a, h3b]
        | false =>
          by_cases h5 : 4 ≤ (ofO L o.s).length
          · have : ¬ (ofO L o.s).length < 4 := by omega
            simp [h2, h3a, h3b, h5, this]
          · have : (ofO L o.s).length < 4 := by omega
            simp [h2, h3a, h3b, h5, this]
    · simp [h2]
theorem Fit.snoc {L : List On} {o : On} (h : Fit L) (h0 : addC L o = 0) : Fit (L ++ [o]) := by
  obtain ⟨h1, h2, h3⟩ := add_zero.1 h0
  refine ⟨fun x hx => ?_, ?_, fun s => ?_⟩
  · rcases List.mem_append.1 hx with hx | hx
    · exact h.ok x hx
    · rw [List.mem_singleton] at hx; subst hx; exact h1
  · refine List.pairwise_append.2 ⟨h.key, List.pairwise_singleton _ _, fun a ha b hb e => ?_⟩
    rw [List.mem_singleton] at hb
    subst hb
    have := hasO_iff.2 ⟨a, ha, e⟩
    rw [h2] at this
    cases this
  · unfold ofO
    rw [List.filter_append, List.length_append]
    by_cases e : o.s = s
    · subst e
      have : (L.filter (fun x => decide (x.s = o.s))).length < 4 := h3
      simp
      omega
    · have := h.few s
      unfold ofO at this
      simp [e]
      exact this
theorem laid_fit_fold (L : List On) (acc : List On × List On) (h : Fit acc.1) : Fit (L.foldl laidF acc).1 := by
  induction L generalizing acc with
  | nil => exact h
  | cons o r ih =>
    refine ih _ ?_
    unfold laidF
    split
    · next h0 => exact (h.snoc h0).perm (insO_perm o acc.1).symm
    · exact h
theorem laid_fit (L : List On) : Fit (laidR L).1 := laid_fit_fold _ _ ⟨fun o ho => (by cases ho), List.Pairwise.nil, fun s => by simp [ofO]⟩
theorem laid_sub_fold (L : List On) (acc : List On × List On) : ∀ o ∈ (L.foldl laidF acc).2, o ∈ acc.2 ∨ o ∈ L := by
  induction L generalizing acc with
  | nil => exact fun o ho => .inl ho
  | cons a r ih =>
    intro o ho
    rcases ih _ o ho with h | h
    · unfold laidF at h
      split at h
      · rcases List.mem_append.1 h with h | h
        · exact .inl h
        · rw [List.mem_singleton] at h; exact .inr (by rw [h]; exact List.mem_cons_self)
      · exact .inl h
    · exact .inr (List.mem_cons_of_mem _ h)
theorem laid_sub (L : List On) : ∀ o ∈ (laidR L).2, o ∈ L := fun o ho => by
  rcases laid_sub_fold _ _ o ho with h | h
  · cases h
  · exact List.mem_of_mem_take h
theorem fit_no {L T : List On} {i : Nat} {x : On} (hF : Fit T) (hp : L.Perm (T.take i)) (hx : T[i]? = some x) : hasO L x.s x.i = false := by
  cases h : hasO L x.s x.i with
  | false => rfl
  | true =>
    obtain ⟨o, ho, h1, h2⟩ := hasO_iff.1 h
    have ho' := hp.mem_iff.1 ho
    have hk : (T.take (i + 1)).Pairwise (fun a b => ¬ (a.s = b.s ∧ a.i = b.i)) := hF.key.sublist (List.take_sublist _ _)
    rw [take_atX hx] at hk
    exact absurd ⟨h1, h2⟩ ((List.pairwise_append.1 hk).2.2 o ho' x (by simp))
theorem fit_add {L T : List On} {i : Nat} {x : On} (hF : Fit T) (hp : L.Perm (T.take i)) (hx : T[i]? = some x) : addC L x = 0 := by
  refine add_zero.2 ⟨hF.ok x (List.mem_of_getElem? hx), fit_no hF hp hx, ?_⟩
  have h1 : (ofO L x.s).length = ((T.take i).filter (fun o => decide (o.s = x.s))).length := (hp.filter _).length_eq
  have h2 : ((T.take (i + 1)).filter (fun o => decide (o.s = x.s))).length ≤ (T.filter (fun o => decide (o.s = x.s))).length := ((List.take_sublist (i + 1) T).filter _).length_le
  have h3 := hF.few x.s
  unfold ofO at h3
  rw [take_atX hx, List.filter_append, List.length_append] at h2
  have h4 : ([x].filter (fun o => decide (o.s = x.s))).length = 1 := by simp
  omega
theorem ord_same {L M : List On} (hL : OrdO L) (hM : OrdO M) (hp : L.Perm M) : L = M :=
  List.Perm.eq_of_pairwise (le := fun a b => befO a b = true) (fun a b _ _ h1 h2 => by
    have := bef_asymm h1
    unfold befO at h2
    rw [this] at h2
    cases h2) hL hM hp
theorem laid_all_j {T : List On} (hF : Fit T) : ∀ j, j ≤ T.length → (laidJ T j).2 = T.take j ∧ (laidJ T j).1.Perm (T.take j) := by
  intro j
  induction j with
  | zero => intro _; exact ⟨rfl, List.Perm.refl _⟩
  | succ j ih =>
    intro hj
    obtain ⟨h1, h2⟩ := ih (by omega)
    obtain ⟨x, hx⟩ : ∃ x, T[j]? = some x := ⟨T[j], List.getElem?_eq_getElem (by omega)⟩
    rw [laidJ_next hx, take_atX hx]
    unfold laidF
    rw [if_pos (fit_add hF h2 hx)]
    exact ⟨by rw [h1], (insO_perm x _).trans (h2.append (List.Perm.refl _))⟩
theorem laid_all {T : List On} (hF : Fit T) (hl : T.length ≤ 60) : (laidR T).2 = T ∧ (laidR T).1.Perm T := by
  have h := laid_all_j hF T.length (Nat.le_refl _)
  have e : laidJ T T.length = laidR T := by
    unfold laidJ laidR
    rw [List.take_of_length_le (Nat.le_refl _), List.take_of_length_le hl]
  rw [e, List.take_length] at h
  exact h
/-- All but these are gone. -/
structure Gn (one : Bool) (T : List On) (i : Nat) (L : List On) (gone : Nat) : Prop where
  len : gone + L.length = T.length
  sub : ∀ o ∈ L, o ∈ T
  gon : ∀ j x, j < i → T[j]? = some x → ∀ o ∈ L, o ≠ x ∧ (one = false → o.s ≠ x.s)
  rest : one = true → ∀ j x, i ≤ j → T[j]? = some x → x ∈ L
theorem Gn.start {one : Bool} {T L : List On} (hp : L.Perm T) : Gn one T 0 L 0 :=
  ⟨by rw [hp.length_eq, Nat.zero_add], fun o ho => hp.mem_iff.1 ho, fun j x hj => absurd hj (Nat.not_lt_zero _), fun _ j x _ hx => hp.mem_iff.2 (List.mem_of_getElem? hx)⟩
theorem Gn.fin {one : Bool} {T L : List On} {gone : Nat} (h : Gn one T T.length L gone) : L = [] ∧ gone = T.length := by
  have h1 : L = [] := by
    rw [List.eq_nil_iff_forall_not_mem]
    intro o ho
    obtain ⟨j, hj⟩ := List.mem_iff_getElem?.1 (h.sub o ho)
    exact (h.gon j o ((List.getElem?_eq_some_iff.1 hj).1) hj o ho).1 rfl
  subst h1
  exact ⟨rfl, by have := h.len; simpa using this⟩
theorem one_left {l : List On} {x : On} (h1 : ∀ a ∈ l, a = x) (h2 : l.Nodup) (h3 : x ∈ l) : l.length = 1 := by
  cases l with
  | nil => cases h3
  | cons a r =>
    cases r with
    | nil => rfl
    | cons b r =>
      have e1 := h1 a (by simp)
      have e2 := h1 b (by simp)
      have := (List.pairwise_cons.1 h2).1 b (by simp)
      exact absurd (e1.trans e2.symm) this
theorem ordO_nodup {L : List On} (h : OrdO L) : L.Nodup := by
  refine List.Pairwise.imp (fun {a b} hab hne => ?_) h
  subst hne
  unfold befO at hab
  rw [bef_irr] at hab
  cases hab
theorem delO_len {L : List On} {x : On} (ho : OrdO L) (hx : x ∈ L) : (delO L x.s x.i).length + 1 = L.length := by
  have h1 := len_parts (fun y => decide (y.s = x.s) && decide (y.i = x.i)) L
  have h2 : (L.filter (fun y => decide (y.s = x.s) && decide (y.i = x.i))).length = 1 := by
    refine one_left (x := x) (fun a ha => ?_) ((ordO_nodup ho).filter _) (List.mem_filter.2 ⟨hx, by simp⟩)
    obtain ⟨h3, h4⟩ := List.mem_filter.1 ha
    simp only [Bool.and_eq_true, decide_eq_true_eq] at h4
    exact ho.key h3 hx h4.1 h4.2
  unfold delO
  omega
theorem Gn.drop {T L : List On} {i gone : Nat} {x : On} (h : Gn true T i L gone) (hF : Fit T) (ho : OrdO L) (hx : T[i]? = some x) : dropC L x.s x.i = 0 ∧ Gn true T (i + 1) (delO L x.s x.i) (gone + 1) := by
  have hin := h.rest rfl i x (Nat.le_refl _) hx
  have hd := delO_len ho hin
  refine ⟨by unfold dropC; rw [if_pos (hasO_iff.2 ⟨x, hin, rfl, rfl⟩)], ⟨by have := h.len; omega, fun o hoo => h.sub o (List.mem_filter.1 hoo).1, fun j y hj hy o hoo => ⟨?_, fun e => by cases e⟩, fun _ j y hj hy => ?_⟩⟩
  · obtain ⟨h1, h2⟩ := List.mem_filter.1 hoo
    by_cases e : j = i
    · subst e
      rw [hx] at hy
      cases hy
      intro e2
      subst e2
      simp at h2
    · exact (h.gon j y (by omega) hy o h1).1
  · refine List.mem_filter.2 ⟨h.rest rfl j y (by omega) hy, ?_⟩
    have hk := List.pairwise_iff_getElem.1 hF.key i j (List.getElem?_eq_some_iff.1 hx).1 (List.getElem?_eq_some_iff.1 hy).1 (by omega)
    rw [(List.getElem?_eq_some_iff.1 hx).2, (List.getElem?_eq_some_iff.1 hy).2] at hk
    simp only [Bool.not_eq_true', Bool.and_eq_false_iff, decide_eq_false_iff_not]
    by_cases e1 : y.s = x.s
    · exact .inr (fun e2 => hk ⟨e1.symm, e2.symm⟩)
    · exact .inl e1
theorem Gn.forget {T L : List On} {i gone : Nat} {x : On} (h : Gn false T i L gone) (hx : T[i]? = some x) : Gn false T (i + 1) (forO L x.s) (gone + (ofO L x.s).length) := by
  have h1 := len_parts (fun y => decide (y.s = x.s)) L
  refine ⟨?_, fun o hoo => h.sub o (List.mem_filter.1 hoo).1, fun j y hj hy o hoo => ?_, fun e => by cases e⟩
  · have := h.len
    unfold forO ofO
    omega
  · obtain ⟨h2, h3⟩ := List.mem_filter.1 hoo
    by_cases e : j = i
    · subst e
      rw [hx] at hy
      cases hy
      have h4 : ¬ o.s = x.s := by simpa using h3
      exact ⟨fun e => h4 (by rw [e]), fun _ => h4⟩
    · exact h.gon j y (by omega) hy o h2
end Go.Proofs.YtbblckcjedjbcaaGreatDoor
