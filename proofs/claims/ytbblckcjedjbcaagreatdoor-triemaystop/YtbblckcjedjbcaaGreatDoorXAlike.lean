import Derived.Test.YtbblckcjedjbcaaGreatDoorXAtD
import Derived.Test.YtbblckcjedjbcaaGreatDoorXBegin
import Derived.Test.YtbblckcjedjbcaaGreatDoorXLaid
namespace Go.Proofs.YtbblckcjedjbcaaGreatDoor
open Go.RowKit Go.Maps
set_option linter.unusedVariables false
set_option linter.unusedSimpArgs false

theorem scO_at (L : List On) (j t : Nat) (o : On) (v : Value) (h : L[j]? = some o) (hv : o.sc[t]? = some v) : (scO L)[j * 3 + t]? = some v := by
  induction L generalizing j with
  | nil => simp at h
  | cons a r ih =>
    have e : scO (a :: r) = a.sc ++ scO r := rfl
    have ht : t < 3 := (List.getElem?_eq_some_iff.1 hv).1
    rw [e]
    cases j with
    | zero =>
      have : a = o := by simpa using h
      subst this
      rw [Nat.zero_mul, Nat.zero_add, List.getElem?_append_left (by simpa using ht)]
      exact hv
    | succ j =>
      have h1 := ih j (by simpa using h)
      rw [List.getElem?_append_right (by simp; omega)]
      have e2 : (j + 1) * 3 + t - a.sc.length = j * 3 + t := by simp; omega
      rw [e2]
      exact h1
theorem row_addr {w : World} {B e s n : Nat} {a : Option Addr} {c : Nat} {xs : List Value} (h : w.ownsRow B e s (.slice a n c) n xs) (hn : n ≠ 0) : ∃ g, a = some ⟨g, 0, none⟩ := by
  rcases h.2 with ⟨h0, h1⟩ | ⟨g, cap, cur, hv, _⟩
  · exact absurd h1 hn
  · simp only [Value.slice.injEq] at hv
    exact ⟨g, hv.1⟩
set_option maxHeartbeats 16000000 in
set_option maxRecDepth 100000 in
theorem sameSeatsE (v u : Value) (L : List On) (w : World) (hv : w.ownsRow 0 36 3 v L.length (scO L)) (hu : w.ownsRow 0 36 3 u L.length (scO L)) (hl : L.length ≤ 100000) :
    Calls Tryz.prog 22 #[v, u] w fun e w' => e = .returned (.bool true) ∧ Below w.heap.size w w' := by
  obtain ⟨a, c, rfl⟩ := owns_shape hv
  obtain ⟨b, d, rfl⟩ := owns_shape hu
  have HV : Hid _ := hv
  have HU : Hid _ := hu
  obtain ⟨m, hm⟩ : ∃ m, L.length = m := ⟨_, rfl⟩
  have HM : Hid (L.length = m) := hm
  rw [hm] at hl HV HU ⊢
  clear hv hu hm
  go_enter Tryz.func22, Tryz.ntmps22
  go_wp2_with fail
  go_loopw [5] (fun vi wr => ∃ j : Nat, vi = .int .i64 j ∧ j ≤ m ∧ Hid (Below w.heap.size w wr)) (fun vi _ => m - (intOf vi).toNat)
  case atStart => exact ⟨0, rfl, Nat.zero_le _, Below.refl _ _⟩
  case round =>
    obtain ⟨j, rfl, hj, HB⟩ := hrel
    by_cases hlt : j < m
    · have hlt' : (j : Int) < (m : Int) := by omega
      obtain ⟨t, ht⟩ : ∃ t, L[j]? = some t := ⟨L[j]'(by rw [HM.out]; exact hlt), List.getElem?_eq_getElem _⟩
      have hV := owns_below HV.out HB.out
      have hU := owns_below HU.out HB.out
      obtain ⟨g, rfl⟩ := row_addr hV (by omega)
      obtain ⟨k, rfl⟩ := row_addr hU (by omega)
      obtain ⟨s, i, p, kk, f⟩ := t
      have x0 : wr.cell? ⟨g, j * 3, none⟩ = some (.string p) := cell_n hV (scO_at L j 0 _ _ ht rfl)
      have x1 : wr.cell? ⟨g, j * 3 + 1, none⟩ = some (.int .i64 s) := cell_n hV (scO_at L j 1 _ _ ht rfl)
      have x2 : wr.cell? ⟨g, j * 3 + 2, none⟩ = some (.int .i64 i) := cell_n hV (scO_at L j 2 _ _ ht rfl)
      have y0 : wr.cell? ⟨k, j * 3, none⟩ = some (.string p) := cell_n hU (scO_at L j 0 _ _ ht rfl)
      have y1 : wr.cell? ⟨k, j * 3 + 1, none⟩ = some (.int .i64 s) := cell_n hU (scO_at L j 1 _ _ ht rfl)
      have y2 : wr.cell? ⟨k, j * 3 + 2, none⟩ = some (.int .i64 i) := cell_n hU (scO_at L j 2 _ _ ht rfl)
      clear ht hV hU
      go_wp2_with fail
      go_quiet (fail)
      go_wp2_with fail
      go_roundw
      case rel => exact ⟨j + 1, by go_num, by omega, below_drewN HB.out _⟩
      case measure => simp [intOf]; omega
    · have hge : ¬ ((j : Int) < (m : Int)) := by omega
      go_wp2_with fail
      go_ret
      exact ⟨rfl, HB.out⟩
set_option maxHeartbeats 16000000 in
set_option maxRecDepth 100000 in
theorem sameWatchesE (v u : Value) (L : List Wa) (w : World) (hv : w.ownsRow 0 40 4 v L.length (waCs L)) (hu : w.ownsRow 0 40 4 u L.length (waCs L)) (hl : L.length ≤ 100000) :
    Calls Tryz.prog 20 #[v, u] w fun e w' => e = .returned (.bool true) ∧ Below w.heap.size w w' := by
  obtain ⟨a, c, rfl⟩ := owns_shape hv
  obtain ⟨b, d, rfl⟩ := owns_shape hu
  have HV : Hid _ := hv
  have HU : Hid _ := hu
  obtain ⟨m, hm⟩ : ∃ m, L.length = m := ⟨_, rfl⟩
  have HM : Hid (L.length = m) := hm
  rw [hm] at hl HV HU ⊢
  clear hv hu hm
  go_enter Tryz.func20, Tryz.ntmps20
  go_wp2_with fail
  go_loopw [5] (fun vi wr => ∃ j : Nat, vi = .int .i64 j ∧ j ≤ m ∧ Hid (Below w.heap.size w wr)) (fun vi _ => m - (intOf vi).toNat)
  case atStart => exact ⟨0, rfl, Nat.zero_le _, Below.refl _ _⟩
  case round =>
    obtain ⟨j, rfl, hj, HB⟩ := hrel
    by_cases hlt : j < m
    · have hlt' : (j : Int) < (m : Int) := by omega
      obtain ⟨t, ht⟩ : ∃ t, L[j]? = some t := ⟨L[j]'(by rw [HM.out]; exact hlt), List.getElem?_eq_getElem _⟩
      have hV := owns_below HV.out HB.out
      have hU := owns_below HU.out HB.out
      obtain ⟨g, rfl⟩ := row_addr hV (by omega)
      obtain ⟨k, rfl⟩ := row_addr hU (by omega)
      obtain ⟨i, p, kk, f⟩ := t
      have x0 : wr.cell? ⟨g, j * 4, none⟩ = some (.int .i64 i) := cell_n hV (waCs_at L j 0 _ _ ht rfl)
      have x1 : wr.cell? ⟨g, j * 4 + 1, none⟩ = some (.string p) := cell_n hV (waCs_at L j 1 _ _ ht rfl)
      have x2 : wr.cell? ⟨g, j * 4 + 2, none⟩ = some (.int .i64 kk) := cell_n hV (waCs_at L j 2 _ _ ht rfl)
      have x3 : wr.cell? ⟨g, j * 4 + 3, none⟩ = some (.int .i64 f) := cell_n hV (waCs_at L j 3 _ _ ht rfl)
      have y0 : wr.cell? ⟨k, j * 4, none⟩ = some (.int .i64 i) := cell_n hU (waCs_at L j 0 _ _ ht rfl)
      have y1 : wr.cell? ⟨k, j * 4 + 1, none⟩ = some (.string p) := cell_n hU (waCs_at L j 1 _ _ ht rfl)
      have y2 : wr.cell? ⟨k, j * 4 + 2, none⟩ = some (.int .i64 kk) := cell_n hU (waCs_at L j 2 _ _ ht rfl)
      have y3 : wr.cell? ⟨k, j * 4 + 3, none⟩ = some (.int .i64 f) := cell_n hU (waCs_at L j 3 _ _ ht rfl)
      clear ht hV hU
      go_wp2_with fail
      go_quiet (fail)
      go_wp2_with fail
      go_roundw
      case rel => exact ⟨j + 1, by go_num, by omega, below_drewN HB.out _⟩
      case measure => simp [intOf]; omega
    · have hge : ¬ ((j : Int) < (m : Int)) := by omega
      go_wp2_with fail
      go_ret
      exact ⟨rfl, HB.out⟩
end Go.Proofs.YtbblckcjedjbcaaGreatDoor
namespace Go.Proofs.YtbblckcjedjbcaaGreatDoor
open Go.RowKit Go.Maps
set_option linter.unusedVariables false
set_option linter.unusedSimpArgs false

theorem insO_perm (o : On) (L : List On) : (insO o L).Perm (L ++ [o]) := by
  unfold insO
  exact List.perm_middle.trans (((part_perm (fun x => befO x o) L).cons o).trans (List.perm_append_singleton o L).symm)
theorem laid_perm_fold (L : List On) (acc : List On × List On) (h : acc.1.Perm acc.2) : (L.foldl laidF acc).1.Perm (L.foldl laidF acc).2 := by
  induction L generalizing acc with
  | nil => exact h
  | cons o r ih =>
    refine ih _ ?_
    unfold laidF
    split
    · exact (insO_perm o acc.1).trans (h.append (List.Perm.refl [o]))
    · exact h
theorem laid_perm (L : List On) : (laidR L).1.Perm (laidR L).2 := laid_perm_fold _ _ (List.Perm.refl _)
theorem OrdO.key {L : List On} (h : OrdO L) {x y : On} (hx : x ∈ L) (hy : y ∈ L) (hs : x.s = y.s) (hi : x.i = y.i) : x = y := by
  induction L with
  | nil => cases hx
  | cons a r ih =>
    have h1 := List.pairwise_cons.1 h
    rcases List.mem_cons.1 hx with rfl | hx'
    · rcases List.mem_cons.1 hy with rfl | hy'
      · rfl
      · have := h1.1 y hy'
        rw [befO, hs, hi, bef_irr] at this
        cases this
    · rcases List.mem_cons.1 hy with rfl | hy'
      · have := h1.1 x hx'
        rw [befO, hs, hi, bef_irr] at this
        cases this
      · exact ih h1.2 hx' hy'
theorem mat_has {L : List On} (ho : OrdO L) {stamp ck : Int} {cp : ByteArray} {x : On} (hx : x ∈ L) : (matO L stamp ck cp).any (fun t => decide (t.1 = x.s) && decide (t.2 = x.i)) = matB stamp ck cp x := by
  rw [Bool.eq_iff_iff, List.any_eq_true]
  constructor
  · rintro ⟨t, ht, h⟩
    simp only [Bool.and_eq_true, decide_eq_true_eq] at h
    unfold matO at ht
    obtain ⟨z, hz, rfl⟩ := List.mem_map.1 ht
    obtain ⟨h1, h2⟩ := List.mem_filter.1 hz
    have := ho.key h1 hx h.1 h.2
    rw [← this]
    exact h2
  · intro h
    exact ⟨(x.s, x.i), List.mem_map.2 ⟨x, List.mem_filter.2 ⟨hx, h⟩, rfl⟩, by simp⟩
theorem mat_asc {L : List On} (ho : OrdO L) (stamp ck : Int) (cp : ByteArray) : (matO L stamp ck cp).Pairwise (fun a b => befT a b = true) := by
  unfold matO
  rw [List.pairwise_map]
  exact List.Pairwise.filter _ ho
theorem mat_len {L M : List On} (hp : L.Perm M) (stamp ck : Int) (cp : ByteArray) : (M.filter (matB stamp ck cp)).length = (matO L stamp ck cp).length := by
  unfold matO
  rw [List.length_map]
  exact (hp.filter _).length_eq.symm
theorem filt_next {M : List On} {j : Nat} {x : On} (hx : M[j]? = some x) (P : On → Bool) : ((M.take (j + 1)).filter P).length = ((M.take j).filter P).length + (if P x then 1 else 0) := by
  have h1 : M.take (j + 1) = M.take j ++ [x] := by rw [List.take_add_one, hx]; rfl
  rw [h1, List.filter_append, List.length_append]
  by_cases h : P x
  · simp [h]
  · simp [h]
theorem any_next {M : List Tg} {j : Nat} {x : Tg} (hx : M[j]? = some x) (P : Tg → Bool) : (M.take (j + 1)).any P = ((M.take j).any P || P x) := by
  have h1 : M.take (j + 1) = M.take j ++ [x] := by rw [List.take_add_one, hx]; rfl
  rw [h1, List.any_append]
  simp
theorem os_of_row {w : World} {B : Nat} {v : Value} {L : List On} (h : w.ownsRow B 42 5 v L.length (onCs L)) : ∃ a c, v = .slice a L.length c ∧ OsAt w a L := by
  obtain ⟨a, c, rfl⟩ := owns_shape h
  refine ⟨a, c, rfl, ?_⟩
  rcases h.2 with ⟨h0, h1⟩ | ⟨g, cap, cur, hv, _, hg, _⟩
  · exact .inl (by simpa using h1)
  · have hv' := hv
    simp only [Value.slice.injEq] at hv'
    obtain ⟨rfl, _, rfl⟩ := hv'
    exact .inr ⟨g, 0, rfl, lt_of_blk hg, fun j t x v hx hv => by rw [Nat.zero_add]; exact cell_n h (onCs_at L j t x v hx hv)⟩
theorem fill4n {w : World} {g : Nat} {t : TypeId} {x0 x1 x2 x3 y0 y1 y2 y3 : Value} (h : w.heap[g]? = some (.cells #[y0, y1, y2, y3] t (0, 0))) : ((((w.setCell ⟨g, 0, none⟩ x0).setCell ⟨g, 1, none⟩ x1).setCell ⟨g, 2, none⟩ x2).setCell ⟨g, 3, none⟩ x3).heap[g]? = some (.cells #[x0, x1, x2, x3] t (0, 0)) := by
  have h0 := same_blk (i := 0) (v := x0) (cs' := #[x0, y1, y2, y3]) h rfl
  have h1 := same_blk (i := 1) (v := x1) (cs' := #[x0, x1, y2, y3]) h0 rfl
  have h2 := same_blk (i := 2) (v := x2) (cs' := #[x0, x1, x2, y3]) h1 rfl
  exact same_blk (i := 3) (v := x3) (cs' := #[x0, x1, x2, x3]) h2 rfl
end Go.Proofs.YtbblckcjedjbcaaGreatDoor
namespace Go.Proofs.YtbblckcjedjbcaaGreatDoor
open Go.RowKit Go.Maps
set_option linter.unusedVariables false
set_option linter.unusedSimpArgs false

/-- Places in memory. -/
def PsAt (w : World) (a : Option Addr) (ps : List ByteArray) : Prop := ps = [] ∨ ∃ b o, a = some ⟨b, o, none⟩ ∧ b < w.heap.size ∧ ∀ (j : Nat) (x : ByteArray), ps[j]? = some x → w.cell? ⟨b, o + j, none⟩ = some (.string x)
theorem PsAt.below {w w' : World} {a : Option Addr} {ps : List ByteArray} (h : PsAt w a ps) (hb : Below w.heap.size w w') : PsAt w' a ps := by
  rcases h with h | ⟨b, o, e, hl, hc⟩
  · exact .inl h
  · exact .inr ⟨b, o, e, Nat.lt_of_lt_of_le hl hb.size, fun j x hx => by rw [hb.cell (p := ⟨b, o + j, none⟩) hl]; exact hc j x hx⟩
theorem PsAt.at {w : World} {a : Option Addr} {ps : List ByteArray} (h : PsAt w a ps) {j : Nat} {x : ByteArray} (hx : ps[j]? = some x) : ∃ b o, a = some ⟨b, o, none⟩ ∧ w.cell? ⟨b, o + j, none⟩ = some (.string x) := by
  rcases h with rfl | ⟨b, o, e, hl, hc⟩
  · simp at hx
  · exact ⟨b, o, e, hc j x hx⟩
theorem ofO_len (L : List On) (s : Int) : (wasO L s).length ≤ L.length := by
  unfold wasO ofO
  rw [List.length_map]
  exact List.length_filter_le _ _
theorem matO_len (L : List On) (stamp ck : Int) (cp : ByteArray) : (matO L stamp ck cp).length ≤ L.length := by
  unfold matO
  rw [List.length_map]
  exact List.length_filter_le _ _
end Go.Proofs.YtbblckcjedjbcaaGreatDoor
