import Derived.Test.YtcoicoijllpgnaaGreatDoorXLaid
import Derived.Test.YtcoicoijllpgnaaGreatDoorXSameE
namespace Go.Proofs.YtcoicoijllpgnaaGreatDoor
open Go.RowKit Go.Maps
set_option linter.unusedVariables false
set_option linter.unusedSimpArgs false

theorem insO_perm (o : On) (L : List On) : (insO o L).Perm (L ++ [o]) := by
  unfold insO
  exact List.perm_middle.trans (((part_perm (fun x => befO x o) L).cons o).trans (List.perm_append_singleton o L).symm)
theorem laid_perm_fold (L : List On) (acc : List On × List On) (h : acc.1.Perm acc.2) : (L.foldl laidF acc).1.Perm (L.foldl laidF acc).2 := by
  induction L generalizing acc with
  | nil => exact h
  | cons o r ih =>
    refine ih _ ?_
    unfold laidF
    split
    · exact (insO_perm o acc.1).trans (h.append (List.Perm.refl [o]))
    · exact h
theorem laid_perm (L : List On) : (laidR L).1.Perm (laidR L).2 := laid_perm_fold _ _ (List.Perm.refl _)
theorem OrdO.key {L : List On} (h : OrdO L) {x y : On} (hx : x ∈ L) (hy : y ∈ L) (hs : x.s = y.s) (hi : x.i = y.i) : x = y := by
  induction L with
  | nil => cases hx
  | cons a r ih =>
    have h1 := List.pairwise_cons.1 h
    rcases List.mem_cons.1 hx with rfl | hx'
    · rcases List.mem_cons.1 hy with rfl | hy'
      · rfl
      · have := h1.1 y hy'
        rw [befO, hs, hi, bef_irr] at this
        cases this
    · rcases List.mem_cons.1 hy with rfl | hy'
      · have := h1.1 x hx'
        rw [befO, hs, hi, bef_irr] at this
        cases this
      · exact ih h1.2 hx' hy'
theorem mat_has {L : List On} (ho : OrdO L) {stamp ck : Int} {cp : ByteArray} {x : On} (hx : x ∈ L) : (matO L stamp ck cp).any (fun t => decide (t.1 = x.s) && decide (t.2 = x.i)) = matB stamp ck cp x := by
  rw [Bool.eq_iff_iff, List.any_eq_true]
  constructor
  · rintro ⟨t, ht, h⟩
    simp only [Bool.and_eq_true, decide_eq_true_eq] at h
    unfold matO at ht
    obtain ⟨z, hz, rfl⟩ := List.mem_map.1 ht
    obtain ⟨h1, h2⟩ := List.mem_filter.1 hz
    have := ho.key h1 hx h.1 h.2
    rw [← this]
    exact h2
  · intro h
    exact ⟨(x.s, x.i), List.mem_map.2 ⟨x, List.mem_filter.2 ⟨hx, h⟩, rfl⟩, by simp⟩
theorem mat_asc {L : List On} (ho : OrdO L) (stamp ck : Int) (cp : ByteArray) : (matO L stamp ck cp).Pairwise (fun a b => befT a b = true) := by
  unfold matO
  rw [List.pairwise_map]
  exact List.Pairwise.filter _ ho
theorem mat_len {L M : List On} (hp : L.Perm M) (stamp ck : Int) (cp : ByteArray) : (M.filter (matB stamp ck cp)).length = (matO L stamp ck cp).length := by
  unfold matO
  rw [List.length_map]
  exact (hp.filter _).length_eq.symm
theorem filt_next {M : List On} {j : Nat} {x : On} (hx : M[j]? = some x) (P : On → Bool) : ((M.take (j + 1)).filter P).length = ((M.take j).filter P).length + (if P x then 1 else 0) := by
  have h1 : M.take (j + 1) = M.take j ++ [x] := by rw [List.take_add_one, hx]; rfl
  rw [h1, List.filter_append, List.length_append]
  by_cases h : P x
  · simp [h]
  · simp [h]
theorem any_next {M : List Tg} {j : Nat} {x : Tg} (hx : M[j]? = some x) (P : Tg → Bool) : (M.take (j + 1)).any P = ((M.take j).any P || P x) := by
  have h1 : M.take (j + 1) = M.take j ++ [x] := by rw [List.take_add_one, hx]; rfl
  rw [h1, List.any_append]
  simp
theorem os_of_row {w : World} {B : Nat} {v : Value} {L : List On} (h : w.ownsRow B 42 5 v L.length (onCs L)) : ∃ a c, v = .slice a L.length c ∧ OsAt w a L := by
  obtain ⟨a, c, rfl⟩ := owns_shape h
  refine ⟨a, c, rfl, ?_⟩
  rcases h.2 with ⟨h0, h1⟩ | ⟨g, cap, cur, hv, _, hg, _⟩
  · exact .inl (by simpa using h1)
  · have hv' := hv
    simp only [Value.slice.injEq] at hv'
    obtain ⟨rfl, _, rfl⟩ := hv'
    exact .inr ⟨g, 0, rfl, lt_of_blk hg, fun j t x v hx hv => by rw [Nat.zero_add]; exact cell_n h (onCs_at L j t x v hx hv)⟩
theorem fill4n {w : World} {g : Nat} {t : TypeId} {x0 x1 x2 x3 y0 y1 y2 y3 : Value} (h : w.heap[g]? = some (.cells #[y0, y1, y2, y3] t (0, 0))) : ((((w.setCell ⟨g, 0, none⟩ x0).setCell ⟨g, 1, none⟩ x1).setCell ⟨g, 2, none⟩ x2).setCell ⟨g, 3, none⟩ x3).heap[g]? = some (.cells #[x0, x1, x2, x3] t (0, 0)) := by
  have h0 := same_blk (i := 0) (v := x0) (cs' := #[x0, y1, y2, y3]) h rfl
  have h1 := same_blk (i := 1) (v := x1) (cs' := #[x0, x1, y2, y3]) h0 rfl
  have h2 := same_blk (i := 2) (v := x2) (cs' := #[x0, x1, x2, y3]) h1 rfl
  exact same_blk (i := 3) (v := x3) (cs' := #[x0, x1, x2, x3]) h2 rfl
end Go.Proofs.YtcoicoijllpgnaaGreatDoor
namespace Go.Proofs.YtcoicoijllpgnaaGreatDoor
open Go.RowKit Go.Maps
set_option linter.unusedVariables false
set_option linter.unusedSimpArgs false

/-- Places in memory. -/
def PsAt (w : World) (a : Option Addr) (ps : List ByteArray) : Prop := ps = [] ∨ ∃ b o, a = some ⟨b, o, none⟩ ∧ b < w.heap.size ∧ ∀ (j : Nat) (x : ByteArray), ps[j]? = some x → w.cell? ⟨b, o + j, none⟩ = some (.string x)
theorem PsAt.below {w w' : World} {a : Option Addr} {ps : List ByteArray} (h : PsAt w a ps) (hb : Below w.heap.size w w') : PsAt w' a ps := by
  rcases h with h | ⟨b, o, e, hl, hc⟩
  · exact .inl h
  · exact .inr ⟨b, o, e, Nat.lt_of_lt_of_le hl hb.size, fun j x hx => by rw [hb.cell (p := ⟨b, o + j, none⟩) hl]; exact hc j x hx⟩
theorem PsAt.at {w : World} {a : Option Addr} {ps : List ByteArray} (h : PsAt w a ps) {j : Nat} {x : ByteArray} (hx : ps[j]? = some x) : ∃ b o, a = some ⟨b, o, none⟩ ∧ w.cell? ⟨b, o + j, none⟩ = some (.string x) := by
  rcases h with rfl | ⟨b, o, e, hl, hc⟩
  · simp at hx
  · exact ⟨b, o, e, hc j x hx⟩
theorem ofO_len (L : List On) (s : Int) : (wasO L s).length ≤ L.length := by
  unfold wasO ofO
  rw [List.length_map]
  exact List.length_filter_le _ _
theorem matO_len (L : List On) (stamp ck : Int) (cp : ByteArray) : (matO L stamp ck cp).length ≤ L.length := by
  unfold matO
  rw [List.length_map]
  exact List.length_filter_le _ _
set_option maxHeartbeats 64000000 in
set_option maxRecDepth 100000 in
theorem alikeA (w : World) (KA KB : Nat → Prop) (A B : Nat) (L : List On) (a : Option Addr) (c : Nat) (T : List On) (stamp : Int) (pa : Option Addr) (pc : Nat) (ps : List ByteArray) (hA : At w KA A L) (hB : At w KB B L) (hg : Ground w) (hlen : L.length ≤ 1000) (hT : OsAt w a T) (hTl : T.length ≤ 1000) (hwf : ∀ o ∈ T, wfI o.s) (hP : PsAt w pa ps) (hPl : (ps.length : Int) ≤ 9223372036854775807) :
    Calls Tryz.prog 20 #[ndV A, ndV B, .slice a T.length c, .int .i64 stamp, .slice pa ps.length pc] w fun e w' => e = .returned (.bool true) ∧ Below w.heap.size w w' := by
  have HA : Hid (At w KA A L) := hA
  have HB : Hid (At w KB B L) := hB
  have HG : Hid (Ground w) := hg
  have HT : Hid (OsAt w a T) := hT
  have HP : Hid (PsAt w pa ps) := hP
  have HWF : Hid (∀ o ∈ T, wfI o.s) := hwf
  have HWL : Hid ((walkO L).length ≤ 100000) := by show _ ≤ _; rw [(walkO_perm hA).length_eq]; omega
  have HLN : Hid (L.length ≤ 1000) := hlen
  obtain ⟨m, hm⟩ : ∃ m, T.length = m := ⟨_, rfl⟩
  have HM : Hid (T.length = m) := hm
  obtain ⟨n, hn⟩ : ∃ n, ps.length = n := ⟨_, rfl⟩
  have HN : Hid (ps.length = n) := hn
  obtain ⟨z, hz⟩ : ∃ z, sizO L = z := ⟨_, rfl⟩
  have HZ : Hid (sizO L = z) := hz
  rw [hm] at hTl ⊢
  rw [hn] at hPl ⊢
  clear hA hB hg hT hP hwf hm hn hz
  go_enter Tryz.func20, Tryz.ntmps20
  go_wp2_with fail
  refine (walkA w KA A L HA.out HLN.out).mono ?_
  rintro e w1 ⟨v1, rfl, ho1, hb1⟩
  have HB1 : Hid (Below w.heap.size w w1) := hb1
  have HO1 : Hid _ := owns_lo ho1 (Nat.zero_le _)
  clear ho1 hb1
  go_wp2_with fail
  refine (walkA w1 KB B L (HB.out.below HB1.out) HLN.out).mono ?_
  rintro e w2 ⟨v2, rfl, ho2, hb2⟩
  have HB2 : Hid (Below w.heap.size w w2) := xtrans2 HB1.out hb2
  have HO2 : Hid _ := owns_lo ho2 (Nat.zero_le _)
  have HO12 : Hid _ := owns_below HO1.out hb2
  clear ho2 hb2
  go_wp2_with fail
  refine (sameSeatsE v1 v2 (walkO L) w2 HO12.out HO2.out HWL.out).mono ?_
  rintro e w3 ⟨rfl, hb3⟩
  have HB3 : Hid (Below w.heap.size w w3) := xtrans2 HB2.out hb3
  clear hb3
  go_wp2_with fail
  refine (sizeA w3 KA A L (HA.out.below HB3.out) HLN.out).mono ?_
  rintro e w4 ⟨rfl, hb4⟩
  rw [HZ.out]
  have HB4 : Hid (Below w.heap.size w w4) := xtrans2 HB3.out hb4
  clear hb4
  go_wp2_with fail
  refine (sizeA w4 KB B L (HB.out.below HB4.out) HLN.out).mono ?_
  rintro e w5 ⟨rfl, hb5⟩
  rw [HZ.out]
  have HB5 : Hid (Below w.heap.size w w5) := xtrans2 HB4.out hb5
  clear hb5
  go_wp2_with fail
  go_loopw [15] (fun vi wr => ∃ j : Nat, vi = .int .i64 j ∧ j ≤ m ∧ Hid (Below w.heap.size w wr)) (fun vi _ => m - (intOf vi).toNat)
  case atStart => exact ⟨0, rfl, Nat.zero_le _, HB5.out⟩
  case round =>
    obtain ⟨j, rfl, hj, HBr⟩ := hrel
    by_cases hlt : j < m
    · have hlt' : (j : Int) < (m : Int) := by omega
      obtain ⟨x, hx⟩ : ∃ x, T[j]? = some x := ⟨T[j]'(by rw [HM.out]; exact hlt), List.getElem?_eq_getElem _⟩
      have hxw : wfI x.s := HWF.out x (List.mem_of_getElem? hx)
      have HTb : Hid (∀ w', Below w.heap.size w w' → ∃ b o, a = some ⟨b, o, none⟩ ∧ w'.cell? ⟨b, o + j * 5, none⟩ = some (.int .i64 x.s)) := fun w' hb => by
        obtain ⟨b, o, h1, h2, _⟩ := (HT.out.below hb).at hx
        exact ⟨b, o, h1, h2⟩
      obtain ⟨b, o, rfl, c0⟩ := HTb.out wr HBr.out
      clear hx
      go_wp2_with fail
      refine (ofA wr KA A L x.s (HA.out.below HBr.out) HLN.out hxw).mono ?_
      rintro e w6 ⟨v6, rfl, ho6, hb6⟩
      have HB6 : Hid (Below w.heap.size w w6) := xtrans2 HBr.out hb6
      have HO6 : Hid _ := owns_lo ho6 (Nat.zero_le _)
      clear ho6 hb6 c0
      obtain ⟨b', o', e', c0⟩ := HTb.out w6 HB6.out
      simp only [Option.some.injEq, Addr.mk.injEq] at e'
      obtain ⟨rfl, rfl, _⟩ := e'
      go_wp2_with fail
      refine (ofA w6 KB B L x.s (HB.out.below HB6.out) HLN.out hxw).mono ?_
      rintro e w7 ⟨v7, rfl, ho7, hb7⟩
      have HB7 : Hid (Below w.heap.size w w7) := xtrans2 HB6.out hb7
      have HO7 : Hid _ := owns_lo ho7 (Nat.zero_le _)
      have HO67 : Hid _ := owns_below HO6.out hb7
      clear ho7 hb7 c0
      go_wp2_with fail
      refine (sameWatchesE v6 v7 (wasO L x.s) w7 HO67.out HO7.out (by have h1 := ofO_len L x.s; have h2 := HLN.out; omega)).mono ?_
      rintro e w8 ⟨rfl, hb8⟩
      have HB8 : Hid (Below w.heap.size w w8) := xtrans2 HB7.out hb8
      clear hb8
      go_wp2_with fail
      go_roundw
      case rel => exact ⟨j + 1, by go_num, by omega, HB8.out⟩
      case measure => simp [intOf]; omega
    · have hge : ¬ ((j : Int) < (m : Int)) := by omega
      go_wp2_with fail
      clear hlt hge hj
      go_loopw [17] (fun vi wq => ∃ i : Nat, vi = .int .i64 i ∧ i ≤ n ∧ i ≤ 20 ∧ Hid (Below w.heap.size w wq)) (fun vi _ => 20 - (intOf vi).toNat)
      case atStart => exact ⟨0, rfl, Nat.zero_le _, Nat.zero_le _, HBr.out⟩
      case round =>
        obtain ⟨i, rfl, hi, hi20, HBq⟩ := hrel
        by_cases hlt : i < n ∧ i < 20
        · have hlt1 : (i : Int) < (n : Int) := by omega
          have hlt2 : (i : Int) < 20 := by omega
          obtain ⟨x, hx⟩ : ∃ x, ps[i]? = some x := ⟨ps[i]'(by rw [HN.out]; exact hlt.1), List.getElem?_eq_getElem _⟩
          have HPb : Hid (∀ w', Below w.heap.size w w' → ∃ b o, pa = some ⟨b, o, none⟩ ∧ w'.cell? ⟨b, o + i, none⟩ = some (.string x)) := fun w' hb => (HP.out.below hb).at hx
          clear hx
          go_wp2_with fail
          go_loopw [18] (fun vi wk => ∃ k : Nat, vi = .int .i64 k ∧ k ≤ 5 ∧ Hid (Below w.heap.size w wk)) (fun vi _ => 5 - (intOf vi).toNat)
          case atStart => exact ⟨0, rfl, Nat.zero_le _, HBq.out⟩
          case round =>
            obtain ⟨k, rfl, hk, HBk⟩ := hrel
            by_cases hlt5 : k < 5
            · have hlt5' : (k : Int) < 5 := by omega
              obtain ⟨b, o, rfl, c0⟩ := HPb.out wr HBk.out
              go_upto_region 18 with fail
              obtain ⟨W6, hW6⟩ : ∃ z, wr.alloc (.cells #[.int .i64 k, .string x, .string ⟨#[]⟩, .int .i64 0] 24) = z := ⟨_, rfl⟩
              have HB6 : Hid (Below w.heap.size w W6) := by show Below _ _ _; rw [← hW6]; exact xtrans2 HBk.out ((Below.refl _ _).alloc (Nat.le_refl _) _)
              have HX6 : Hid (W6.heap[wr.heap.size]? = some (.cells #[.int .i64 k, .string x, .string ⟨#[]⟩, .int .i64 0] 24 (0, 0))) := by show _ = _; rw [← hW6]; exact heap_alloc_new _ _
              rw [hW6]
              obtain ⟨q, hq⟩ : ∃ q, wr.heap.size = q := ⟨_, rfl⟩
              rw [hq] at HX6 ⊢
              clear hW6 hq c0
              obtain ⟨d0, d1, d2, d3⟩ := cells_4 HX6.out
              go_wp2_with fail
              refine (matchA W6 KA A L stamp k x ⟨#[]⟩ 0 (HA.out.below HB6.out) (HG.out.below HB6.out) HLN.out).mono ?_
              rintro e w7 ⟨v7, rfl, ho7, hb7⟩
              have HB7 : Hid (Below w.heap.size w w7) := xtrans2 HB6.out hb7
              have HO7 : Hid (TsAt w7 v7 (matO L stamp k x)) := owns_lo ho7 (Nat.zero_le _)
              have HX7 : Hid _ := kept_block hb7 HX6.out
              clear ho7 hb7 d0 d1 d2 d3
              obtain ⟨d0, d1, d2, d3⟩ := cells_4 HX7.out
              go_wp2_with fail
              refine (matchA w7 KB B L stamp k x ⟨#[]⟩ 0 (HB.out.below HB7.out) (HG.out.below HB7.out) HLN.out).mono ?_
              rintro e w8 ⟨v8, rfl, ho8, hb8⟩
              have HB8 : Hid (Below w.heap.size w w8) := xtrans2 HB7.out hb8
              have HO8 : Hid (TsAt w8 v8 (matO L stamp k x)) := owns_lo ho8 (Nat.zero_le _)
              have HO78 : Hid (TsAt w8 v7 (matO L stamp k x)) := HO7.out.below hb8
              clear ho8 hb8 d0 d1 d2 d3
              go_wp2_with fail
              refine (sameTags_any v7 v8 _ _ w8 HO78.out HO8.out (by have h1 := matO_len L stamp k x; have h2 := HLN.out; omega)).mono ?_
              rintro e w9 ⟨he9, hb9⟩
              rw [decide_eq_true rfl] at he9
              subst he9
              have HB9 : Hid (Below w.heap.size w w9) := xtrans2 HB8.out hb9
              clear hb9
              go_wp2_with fail
              go_roundw
              case rel => exact ⟨k + 1, by go_num, by omega, HB9.out⟩
              case measure => simp [intOf]; omega
            · have hge5 : ¬ ((k : Int) < 5) := by omega
              go_wp2_with fail
              go_roundw
              case rel => exact ⟨i + 1, by go_num, by omega, by omega, HBk.out⟩
              case measure => simp [intOf]; omega
        · by_cases h1 : i < n
          · have hlt1 : (i : Int) < (n : Int) := by omega
            have hge2 : ¬ ((i : Int) < 20) := by omega
            go_wp2_with fail
            go_ret
            exact ⟨rfl, HBq.out⟩
          · have hge1 : ¬ ((i : Int) < (n : Int)) := by omega
            go_wp2_with fail
            go_ret
            exact ⟨rfl, HBq.out⟩
end Go.Proofs.YtcoicoijllpgnaaGreatDoor
