import Derived.Test.YtliafokjdngejaaGreatDoorTReadA
import Derived.Test.YtliafokjdngejaaGreatDoorTPart
namespace Go.Proofs.YtliafokjdngejaaGreatDoor
open Go.RowKit Go.Maps Go.WideShapes
set_option linter.unusedVariables false
set_option linter.unusedSimpArgs false
attribute [local go_sem ↓] Go.wp_at_zero Go.wp_at_succ

theorem cells_3 {W : World} {b : Nat} {t : TypeId} {x0 x1 x2 : Value} (h : W.heap[b]? = some (.cells #[x0, x1, x2] t (0, 0))) : W.cell? ⟨b, 0, none⟩ = some x0 ∧ W.cell? ⟨b, 1, none⟩ = some x1 ∧ W.cell? ⟨b, 2, none⟩ = some x2 := by
  simp [World.cell?, h]
theorem free_3 {W : World} {b : Nat} {t : TypeId} {x0 x1 x2 : Value} (h : W.heap[b]? = some (.cells #[x0, x1, x2] t (0, 0))) (o : Nat) : W.frozen? ⟨b, o, none⟩ = false := by
  simp [World.frozen?, h]
structure SnT where
  p : ByteArray
  d : ByteArray
  v : Int
abbrev SnT.cs (x : SnT) : List Value := [.string x.p, .string x.d, .int .i64 x.v]
def snN (k : Int) (x : Nd) : SnT := ⟨x.p, sd k x.d, sv k x.v⟩
def parT (T : List Nd) (k : Int) (p : ByteArray) : List SnT := (T.filter (fun x => covers k p 1 x.p)).map (snN k)
theorem parT_len (T : List Nd) (k : Int) (p : ByteArray) : (parT T k p).length ≤ T.length := by
  unfold parT
  rw [List.length_map]
  exact List.length_filter_le _ _
theorem seenCs_T {D : DataW Value} {T : List Nd} (h : Rep D T) (k : Int) : ∀ U : List Nd, (∀ x ∈ U, x ∈ T) → seenCs k D (U.map Nd.by) = (U.map (snN k)).flatMap SnT.cs
  | [], _ => rfl
  | x :: r, hU => by
    have e : (⟨(Nd.by x).toArray⟩ : ByteArray) = x.p := ByteArray.ext (by simp [Nd.by])
    have ih := seenCs_T h k r (fun y hy => hU y (List.mem_cons_of_mem _ hy))
    unfold seenCs at ih ⊢
    rw [List.map_cons, List.map_cons, List.flatten_cons, ih, List.map_cons, List.flatMap_cons, e, h.look x (hU x List.mem_cons_self)]
    congr 1
    unfold seenOf snN sd sv
    by_cases hk : k = 2 <;> simp [hk, cellsOf]
theorem part_tr (B tb q : Nat) (T : List Nd) (k : Int) (p : ByteArray) (w : World) (hg : Ground w) (h : TrAt w B tb q T) (hp : (parse p).1 = 0) (hk : k = 1 ∨ k = 2 ∨ k = 3) :
    Calls Tryz.prog 24 #[.pointer (some ⟨tb, 0, none⟩), .string p, .int .i64 k] w fun e w' => ∃ a cap, e = .returned (.tuple #[.slice a (parT T k p).length cap, .int .i64 0]) ∧ w'.ownsRow w.heap.size 101 3 (.slice a (parT T k p).length cap) (parT T k p).length ((parT T k p).flatMap SnT.cs) ∧ Below w.heap.size w w' := by
  obtain ⟨mb, n, D, h1, h2, h3⟩ := h.at'
  refine Calls.mono (part_any sorts_to sorts_nil B tb mb n D k p w hg h1 (by rw [h2.size]; have := h.snd.inv.len; omega) (h2.wf h.snd.inv.sml) (by simpa [isP] using hp) hk) ?_
  rintro e w' ⟨a, cap, ts, rfl, hpm, ha, hr, hb⟩
  have h4 := (h.snd.inv.srt.filter (fun x => wF k p x.by)).only (hpm.trans (filter_keys h2 (wF k p))) ha
  have e1 : T.filter (fun x => wF k p x.by) = T.filter (fun x => covers k p 1 x.p) := rfl
  rw [e1] at h4
  subst h4
  rw [seenCs_T h2 k _ (fun x hx => (List.mem_filter.1 hx).1)] at hr
  have e2 : ((T.filter (fun x => covers k p 1 x.p)).map Nd.by).length = (parT T k p).length := by unfold parT; simp
  rw [e2] at hr ⊢
  exact ⟨a, cap, rfl, hr, hb⟩
set_option maxHeartbeats 3200000 in
theorem part_bad (B tb q : Nat) (T : List Nd) (k : Int) (p : ByteArray) (w : World) (hg : Ground w) (h : TrAt w B tb q T) (hp : (parse p).1 ≠ 0) :
    Calls Tryz.prog 24 #[.pointer (some ⟨tb, 0, none⟩), .string p, .int .i64 k] w fun e w' => e = .returned (.tuple #[.slice none 0 0, .int .i64 10]) ∧ Below w.heap.size w w' := by
  obtain ⟨mb, n, D, h1, _⟩ := h.at'
  have HN : Hid _ := isNone_at tb (some mb) w (cells_1 h1.box)
  have HP : Hid (Calls Tryz.prog 21 #[.string p] w (Parsed p w)) := parse_any p w hg
  obtain ⟨pc, hpc⟩ : ∃ pc, (parse p).1 = pc := ⟨_, rfl⟩
  have HPC : Hid ((parse p).1 = pc) := hpc
  rw [hpc] at hp
  have e1 : (pc != 0) = true := by simpa using hp
  clear hpc hp h h1 hg
  go_enter Tryz.func24, Tryz.ntmps24
  go_wp2_with (first
    | (go_at_call 35; refine Calls.mono HN.out ?_; rintro e w0 ⟨rfl, rfl⟩)
    | fail)
  refine Calls.mono HP.out ?_
  rintro e w1 ⟨a, c, rfl, _, hb⟩
  have HB : Hid _ := hb
  rw [HPC.out]
  clear hb
  go_wp2_with fail
  go_ret2
  exact ⟨rfl, HB.out⟩
set_option maxHeartbeats 3200000 in
theorem part_arg (B tb q : Nat) (T : List Nd) (k : Int) (p : ByteArray) (w : World) (hg : Ground w) (h : TrAt w B tb q T) (hp : (parse p).1 = 0) (hk : k < 1 ∨ 3 < k) :
    Calls Tryz.prog 24 #[.pointer (some ⟨tb, 0, none⟩), .string p, .int .i64 k] w fun e w' => e = .returned (.tuple #[.slice none 0 0, .int .i64 1]) ∧ Below w.heap.size w w' := by
  obtain ⟨mb, n, D, h1, _⟩ := h.at'
  have HN : Hid _ := isNone_at tb (some mb) w (cells_1 h1.box)
  have HP : Hid (Calls Tryz.prog 21 #[.string p] w (Parsed p w)) := parse_any p w hg
  have HPC : Hid ((parse p).1 = 0) := hp
  have e1 : (k != 1) = true := by simp; omega
  have e2 : (k != 2) = true := by simp; omega
  have e3 : (k != 3) = true := by simp; omega
  clear hp h h1 hg hk
  go_enter Tryz.func24, Tryz.ntmps24
  go_wp2_with (first
    | (go_at_call 35; refine Calls.mono HN.out ?_; rintro e w0 ⟨rfl, rfl⟩)
    | fail)
  refine Calls.mono HP.out ?_
  rintro e w1 ⟨a, c, rfl, _, hb⟩
  have HB : Hid _ := hb
  rw [HPC.out]
  clear hb
  go_wp2_with fail
  go_ret2
  exact ⟨rfl, HB.out⟩
/-- What is seen in a row. -/
theorem sn_cell {w : World} {B g cap : Nat} {L : List SnT} (h : w.ownsRow B 101 3 (.slice (some ⟨g, 0, none⟩) L.length cap) L.length (L.flatMap SnT.cs)) {q j : Nat} {x : SnT} {v : Value} (hx : L[q]? = some x) (hv : x.cs[j]? = some v) : w.cell? ⟨g, q * 3 + j, none⟩ = some v :=
  cell_n h (flat_at SnT.cs 3 (fun _ => rfl) L q j x v hx hv)
/-- What lies below a place that is not there is not there. -/
theorem Snd.below {T : List Nd} (h : Snd T) {p : ByteArray} (hp : (parse p).1 = 0) : ∀ (n : Nat) (y : Nd), y ∈ T → (parse y.p).2.length ≤ n → Bel (parse p).2 (parse y.p).2 → ∃ u ∈ T, u.p = p
  | n, y, hy, hn, hb => by
    have hyp := (h.inv.nd y hy).1
    have hyr : y.p ≠ pRt := fun e => by
      have h9 := hb
      rw [e, show parse pRt = (0, []) by kernel_rfl] at h9
      obtain ⟨h1, _⟩ := h9
      simp at h1
    obtain ⟨xs, k, x, hx, hl, hk, _⟩ := names_of hyp hyr
    obtain ⟨u, hu, hup, _⟩ := h.up y hy hyr
    rw [par_of (x := x) hx hl] at hup
    have hlen := parse_len hx
    have hup2 : parse u.p = (0, xs.take k) := by
      rw [hup]
      exact parse_place (by rw [List.length_take]; omega) (all_take hlen.2 k)
    rw [hx] at hb hn
    have hn : xs.length ≤ n := hn
    obtain ⟨h1, h2⟩ := hb
    by_cases hek : (parse p).2.length = k
    · refine ⟨u, hu, ?_⟩
      rw [hup]
      have h3 : (parse p).2 = xs.take k := by rw [← hek]; exact h2.symm
      rw [← h3]
      exact parse_back (by rw [← hp])
    · match n, hn with
      | 0, hn => omega
      | n + 1, hn =>
        refine Snd.below h hp n u hu (by rw [hup2]; simp; omega) ?_
        rw [hup2]
        refine ⟨by rw [List.length_take]; show _ < _; have : (parse p).2.length < xs.length := h1; omega, ?_⟩
        rw [List.take_take, Nat.min_eq_left (by have : (parse p).2.length < xs.length := h1; omega)]
        exact h2
theorem part_none {T : List Nd} (h : Snd T) {p : ByteArray} (hp : (parse p).1 = 0) (hf : fnd T p = none) (k : Int) : parT T k p = [] := by
  unfold parT
  rw [List.map_eq_nil_iff, List.filter_eq_nil_iff]
  intro y hy hc
  have hyp := (h.inv.nd y hy).1
  have hne := fnd_none hf y hy
  have e1 : eqB y.p p = false := beq_ne hne
  have hbel : Bel (parse p).2 (parse y.p).2 → False := fun hb => by
    obtain ⟨u, hu, e⟩ := h.below hp _ y hy (Nat.le_refl _) hb
    exact fnd_none hf u hu e
  have e3 : belB p y.p = false := by
    unfold belB
    exact decide_eq_false hbel
  have e2 : childB p y.p = false := by
    cases hcb : childB p y.p with
    | false => rfl
    | true =>
      exfalso
      by_cases hyr : y.p = pRt
      · rw [hyr] at hcb
        cases hcb
      · obtain ⟨xs, j, x, hx, hl, _, _⟩ := names_of hyp hyr
        have h9 : parB y.p = p := by
          unfold childB at hcb
          rw [hx] at hcb
          simp only [hl, Nat.add_sub_cancel] at hcb
          rw [← par_of (x := x) hx hl] at hcb
          have h8 : (parB y.p).toList = p.toList := by
            have := (Bool.and_eq_true _ _ ▸ hcb).2
            simpa using this
          rw [ByteArray.toList_eq, ByteArray.toList_eq] at h8
          exact ByteArray.ext (Array.ext' h8)
        obtain ⟨u, hu, hup, _⟩ := h.up y hy hyr
        exact fnd_none hf u hu (hup.trans h9)
  unfold covers cov at hc
  rw [e1, e2, e3] at hc
  simp at hc
end Go.Proofs.YtliafokjdngejaaGreatDoor
namespace Go.Proofs.YtliafokjdngejaaGreatDoor
open Go.RowKit Go.Maps Go.WideShapes
set_option linter.unusedVariables false
set_option linter.unusedSimpArgs false

def sn (x : Nd) : SnT := ⟨x.p, x.d, x.v⟩
theorem sn3 (x : Nd) : snN 3 x = sn x := rfl
def Fst (l : List SnT) (i : Nat) (p : ByteArray) : Prop := ∀ j y, j < i → l[j]? = some y → y.p ≠ p
inductive Turn : List SnT → ChT → List SnT → Prop
  | make (l : List SnT) (p d : ByteArray) : (∀ x ∈ l, x.p ≠ p) → Turn l ⟨1, p, d, 0⟩ (l ++ [⟨p, d, 0⟩])
  | set (l : List SnT) (i : Nat) (x : SnT) (d : ByteArray) : l[i]? = some x → Fst l i x.p → 0 ≤ x.v → x.v < 2147483647 → Turn l ⟨2, x.p, d, x.v + 1⟩ (l.set i ⟨x.p, d, x.v + 1⟩)
  | drop (l : List SnT) (i : Nat) (x z : SnT) : l[i]? = some x → Fst l i x.p → l.getLast? = some z → Turn l ⟨3, x.p, ⟨#[]⟩, x.v⟩ ((l.set i z).dropLast)
inductive Turns : List SnT → List ChT → List SnT → Prop
  | nil (l : List SnT) : Turns l [] l
  | snoc {l l1 l2 : List SnT} {C : List ChT} {c : ChT} : Turns l C l1 → Turn l1 c l2 → Turns l (C ++ [c]) l2
theorem erase_perm (l : List SnT) (i : Nat) (x z : SnT) (hx : l[i]? = some x) (hz : l.getLast? = some z) : (x :: (l.set i z).dropLast).Perm l := by
  rcases List.eq_nil_or_concat l with rfl | ⟨r, y, e⟩
  · simp at hx
  rw [List.concat_eq_append] at e
  subst e
  obtain rfl : y = z := by simpa using hz
  by_cases hi : i < r.length
  · rw [List.getElem?_append_left hi] at hx
    rw [List.set_append_left _ _ hi, List.dropLast_concat]
    have e : r = r.take i ++ x :: r.drop (i + 1) := by
      conv => lhs; rw [← List.take_append_drop i r, List.drop_eq_getElem_cons hi]
      congr 2
      exact (List.getElem?_eq_some_iff.1 hx).2
    have e2 : r.set i y = r.take i ++ y :: r.drop (i + 1) := by
      rw [List.set_eq_take_append_cons_drop, if_pos hi]
    rw [e2]
    conv => rhs; rw [e]
    have p1 : (x :: (r.take i ++ y :: r.drop (i + 1))).Perm (x :: y :: (r.take i ++ r.drop (i + 1))) := (List.perm_middle).cons x
    have p2 : (r.take i ++ x :: r.drop (i + 1) ++ [y]).Perm (x :: (r.take i ++ r.drop (i + 1)) ++ [y]) := (List.perm_middle).append_right [y]
    refine p1.trans (List.Perm.trans ?_ p2.symm)
    show (x :: y :: (r.take i ++ r.drop (i + 1))).Perm (x :: ((r.take i ++ r.drop (i + 1)) ++ [y]))
    exact (List.perm_append_singleton y _).symm.cons x
  · have hil := (List.getElem?_eq_some_iff.1 hx).1
    simp at hil
    obtain rfl : i = r.length := by omega
    have hxy : y = x := by simpa using hx
    subst hxy
    rw [List.set_append_right _ _ (Nat.le_refl _)]
    simp
    exact (List.perm_append_singleton y r).symm
theorem set_perm (l : List SnT) (i : Nat) (x y : SnT) (hx : l[i]? = some x) : (x :: l.set i y).Perm (y :: l) := by
  have hi := (List.getElem?_eq_some_iff.1 hx).1
  have e : l = l.take i ++ x :: l.drop (i + 1) := by
    conv => lhs; rw [← List.take_append_drop i l, List.drop_eq_getElem_cons hi]
    congr 2
    exact (List.getElem?_eq_some_iff.1 hx).2
  have e2 : l.set i y = l.take i ++ y :: l.drop (i + 1) := by rw [List.set_eq_take_append_cons_drop, if_pos hi]
  rw [e2]
  conv => rhs; rw [e]
  exact ((List.perm_middle).cons x).trans ((List.Perm.swap y x _).trans ((List.perm_middle).symm.cons y))
/-- The first with a place that is there. -/
theorem first_of (l : List SnT) (p : ByteArray) (h : ∃ x ∈ l, x.p = p) : ∃ i x, l[i]? = some x ∧ x.p = p ∧ Fst l i p := by
  induction l with
  | nil => obtain ⟨x, hx, _⟩ := h; cases hx
  | cons a r ih =>
    by_cases ha : a.p = p
    · exact ⟨0, a, rfl, ha, fun j y hj _ => absurd hj (Nat.not_lt_zero j)⟩
    · obtain ⟨x, hx, hp⟩ := h
      have hxr : x ∈ r := by
        rcases List.mem_cons.1 hx with rfl | hx
        · exact absurd hp ha
        · exact hx
      obtain ⟨i, y, hy, hyp, hf⟩ := ih ⟨x, hxr, hp⟩
      refine ⟨i + 1, y, by simpa using hy, hyp, fun j z hj hz => ?_⟩
      cases j with
      | zero =>
        obtain rfl : a = z := by simpa using hz
        exact ha
      | succ j => exact hf j z (by omega) (by simpa using hz)
theorem inv_uniq {T : List Nd} (h : Inv T) {a b : Nd} (ha : a ∈ T) (hb : b ∈ T) (e : a.p = b.p) : a = b := by
  obtain ⟨i, hi, rfl⟩ := List.mem_iff_getElem.1 ha
  obtain ⟨j, hj, rfl⟩ := List.mem_iff_getElem.1 hb
  rcases Nat.lt_trichotomy i j with hij | hij | hij
  · have := List.pairwise_iff_getElem.1 h.srt i j hi hj hij
    rw [e, O_self] at this
    cases this
  · subst hij; rfl
  · have := List.pairwise_iff_getElem.1 h.srt j i hj hi hij
    rw [e, O_self] at this
    cases this
theorem inv_nodup {T : List Nd} (h : Inv T) : (T.map Nd.p).Nodup := by
  refine List.pairwise_map.2 (h.srt.imp (fun {x y} hxy e => ?_))
  rw [e, O_self] at hxy
  cases hxy
/-- At the place of a node the list has just that node. -/
theorem find_sn {T : List Nd} (h : Inv T) {l : List SnT} (hl : l.Perm (T.map sn)) {x : Nd} (hx : x ∈ T) : ∃ i, l[i]? = some (sn x) ∧ Fst l i x.p := by
  obtain ⟨i, y, hy, hp, hf⟩ := first_of l x.p ⟨sn x, hl.mem_iff.2 (List.mem_map_of_mem hx), rfl⟩
  obtain ⟨z, hz, rfl⟩ := List.mem_map.1 (hl.mem_iff.1 (List.mem_of_getElem? hy))
  obtain rfl := inv_uniq h hz hx hp
  exact ⟨i, hy, hf⟩
theorem filter_perm {T : List Nd} (hnd : (T.map Nd.p).Nodup) {x : Nd} (hx : x ∈ T) : (x :: T.filter (fun y => decide (y.p ≠ x.p))).Perm T := by
  have h1 := upd_perm hnd ⟨x, hx, rfl⟩
  refine h1.symm.trans ?_
  have e : upd T x = T := by
    unfold upd
    conv => rhs; rw [← List.map_id T]
    apply List.map_congr_left
    intro y hy
    by_cases hp : y.p = x.p
    · rw [if_pos hp]
      have : ∀ {U : List Nd}, (U.map Nd.p).Nodup → x ∈ U → y ∈ U → x = y := by
        intro U hU h1 h2
        induction U with
        | nil => cases h1
        | cons a r ih =>
          rw [List.map_cons, List.nodup_cons] at hU
          rcases List.mem_cons.1 h1 with e1 | k1
          · rcases List.mem_cons.1 h2 with e2 | k2
            · rw [e1, e2]
            · exact absurd (by rw [← e1, ← hp]; exact List.mem_map_of_mem k2) hU.1
          · rcases List.mem_cons.1 h2 with e2 | k2
            · exact absurd (by rw [← e2, hp]; exact List.mem_map_of_mem k1) hU.1
            · exact ih hU.2 k1 k2
      exact this hnd hx hy
    · rw [if_neg hp]
      rfl
  rw [e]
/-- A node goes. -/
theorem drop_step {T : List Nd} (h : Inv T) {l : List SnT} (hl : l.Perm (T.map sn)) {x : Nd} (hx : x ∈ T) : ∃ l', Turn l ⟨3, x.p, ⟨#[]⟩, x.v⟩ l' ∧ l'.Perm ((T.filter (fun y => decide (y.p ≠ x.p))).map sn) := by
  obtain ⟨i, hi, hf⟩ := find_sn h hl hx
  have hne : l ≠ [] := fun e => by rw [e] at hi; simp at hi
  obtain ⟨z, hz⟩ : ∃ z, l.getLast? = some z := ⟨l.getLast hne, List.getLast?_eq_some_getLast hne⟩
  refine ⟨_, Turn.drop l i (sn x) z hi hf hz, ?_⟩
  have h1 := erase_perm l i (sn x) z hi hz
  have h2 := ((filter_perm (inv_nodup h) hx).map sn)
  exact (h1.trans (hl.trans h2.symm)).cons_inv
theorem one_step {T : List Nd} (h : Inv T) {l0 l : List SnT} {C : List ChT} (hC : Turns l0 C l) (hl : l.Perm (T.map sn)) (s st : Int) (o : OpT) : ∃ l', Turns l0 (C ++ (oneM T s st o).2.2.2) l' ∧ l'.Perm ((oneM T s st o).2.1.map sn) := by
  have stay : ∃ l', Turns l0 (C ++ []) l' ∧ l'.Perm (T.map sn) := ⟨l, by rw [List.append_nil]; exact hC, hl⟩
  unfold oneM
  split
  · exact stay
  split
  · unfold makeM
    split
    · exact stay
    rename_i u hfu
    have hu := fnd_some hfu
    split
    · exact stay
    split
    · exact stay
    split
    · exact stay
    rename_i hfa
    split
    · exact stay
    have hnone : fnd T (atOf o.p o.f u.k) = none := by simpa using hfa
    refine ⟨_, hC.snoc (Turn.make l _ o.d (fun x hx e => ?_)), ?_⟩
    · obtain ⟨y, hy, rfl⟩ := List.mem_map.1 (hl.mem_iff.1 hx)
      exact fnd_none hnone y hy e
    · have h1 := (ins_perm ⟨atOf o.p o.f u.k, o.d, 0, st, st, if o.f % 2 = 1 then s else 0, 0⟩ (upd T { u with k := if 2 ≤ o.f then u.k + 1 else u.k })).map sn
      refine List.Perm.trans ?_ h1.symm
      have h2 : (upd T { u with k := if 2 ≤ o.f then u.k + 1 else u.k }).map sn = T.map sn := by
        unfold upd
        rw [List.map_map]
        apply List.map_congr_left
        intro y hy
        show sn (if y.p = u.p then _ else y) = sn y
        by_cases hp : y.p = u.p
        · rw [if_pos hp]
          obtain rfl := inv_uniq h hy hu.1 hp
          rfl
        · rw [if_neg hp]
      rw [List.map_cons, h2]
      exact (List.perm_append_singleton _ _).trans (hl.cons _)
  · split
    · exact stay
    rename_i x hf
    have hx := fnd_some hf
    split
    · exact stay
    rename_i hm
    have hm : misC o.k o.v x.v (kidsM T x.p) = 0 := by simpa using hm
    unfold restM
    split
    · rename_i h2
      have hv := mis_ok2 (by rw [← h2]; exact hm)
      obtain ⟨i, hi, hfst⟩ := find_sn h hl hx.1
      refine ⟨_, hC.snoc (Turn.set l i (sn x) o.d hi hfst (h.nd x hx.1).2.2.1 (by show x.v < _; omega)), ?_⟩
      have h1 := set_perm l i (sn x) ⟨x.p, o.d, x.v + 1⟩ hi
      have h3 := (upd_perm (inv_nodup h) (y := { x with d := o.d, v := x.v + 1, c := st }) ⟨x, hx.1, rfl⟩).map sn
      have h4 := (filter_perm (inv_nodup h) hx.1).map sn
      have h5 : (sn x :: l.set i ⟨x.p, o.d, x.v + 1⟩).Perm (sn x :: (⟨x.p, o.d, x.v + 1⟩ :: (T.filter (fun y => decide (y.p ≠ x.p))).map sn)) :=
        h1.trans (((hl.trans h4.symm).cons _).trans (List.Perm.swap _ _ _))
      exact h5.cons_inv.trans h3.symm
    split
    · obtain ⟨l', h1, h2⟩ := drop_step h hl hx.1
      exact ⟨l', hC.snoc h1, h2⟩
    · exact stay
theorem play_steps {T0 : List Nd} {l0 : List SnT} (hl0 : l0.Perm (T0.map sn)) (s st : Int) : ∀ (os : List OpT) (i : Nat) (T : List Nd) (R : List ResT) (C : List ChT) (l : List SnT), Inv T → Turns l0 C l → l.Perm (T.map sn) → ∃ l', Turns l0 (playL T0 s st os i T R C).C l' ∧ l'.Perm ((playL T0 s st os i T R C).T.map sn)
  | [], _, _, _, _, l, _, hC, hl => ⟨l, hC, hl⟩
  | o :: r, i, T, R, C, l, hi, hC, hl => by
    unfold playL
    split
    · exact ⟨l0, Turns.nil l0, hl0⟩
    · obtain ⟨l', h1, h2⟩ := one_step hi hC hl s st o
      exact play_steps hl0 s st r _ _ _ _ l' (oneM_inv hi s st o) h1 h2
theorem play_told {T : List Nd} (hi : Inv T) {l : List SnT} (hl : l.Perm (T.map sn)) (s st : Int) (os : List OpT) : ∃ l', Turns l (playM T s st os).C l' ∧ l'.Perm ((playM T s st os).T.map sn) := by
  unfold playM
  split
  · exact ⟨l, Turns.nil l, hl⟩
  · exact play_steps hl s st os 0 T [] [] l hi (Turns.nil l) hl
theorem end_told {T : List Nd} (hi : Inv T) {l : List SnT} (hl : l.Perm (T.map sn)) (s : Int) : ∃ l', Turns l (finC T s) l' ∧ l'.Perm ((finT T s).map sn) := by
  unfold finC finT
  by_cases hs : s < 1
  · rw [if_pos hs, if_pos hs]
    exact ⟨l, Turns.nil l, hl⟩
  rw [if_neg hs, if_neg hs]
  have main : ∀ q, q ≤ T.length → ∃ l', Turns l (endC (T.take q) s) l' ∧ l'.Perm ((endQ T s q).map sn) := by
    intro q
    induction q with
    | zero =>
      intro _
      exact ⟨l, by simpa [endC] using Turns.nil l, by simpa [endQ] using hl⟩
    | succ q ih =>
      intro hq
      obtain ⟨l1, h1, h2⟩ := ih (by omega)
      obtain ⟨x, hx⟩ : ∃ x, T[q]? = some x := ⟨T[q], List.getElem?_eq_getElem (by omega)⟩
      rw [endC_snoc hx]
      by_cases ho : x.o = s
      · rw [if_pos ho, endQ_go (inv_nodup hi) hx ho]
        have hiq : Inv (endQ T s q) := by
          have hsub : (endQ T s q).Sublist T := by
            unfold endQ
            conv => rhs; rw [← List.take_append_drop q T]
            exact List.Sublist.append List.filter_sublist (List.Sublist.refl _)
          exact ⟨hi.srt.sublist hsub, Nat.le_trans hsub.length_le hi.len, fun y hy => hi.nd y (hsub.subset hy)⟩
        have hxm : x ∈ endQ T s q := by
          unfold endQ
          refine List.mem_append_right _ ?_
          rw [List.drop_eq_getElem_cons (by omega : q < T.length)]
          have e9 := (List.getElem?_eq_some_iff.1 hx).2
          rw [e9]
          exact List.mem_cons_self
        obtain ⟨l2, h3, h4⟩ := drop_step hiq h2 hxm
        exact ⟨l2, h1.snoc h3, h4⟩
      · rw [if_neg ho, endQ_stay hx ho, List.append_nil]
        exact ⟨l1, h1, h2⟩
  obtain ⟨l', h1, h2⟩ := main T.length (Nat.le_refl _)
  rw [List.take_length] at h1
  refine ⟨l', h1, ?_⟩
  have e : endQ T s T.length = endT T s := by
    unfold endQ endT
    rw [List.take_length, List.drop_length, List.append_nil]
  rw [e] at h2
  exact h2
end Go.Proofs.YtliafokjdngejaaGreatDoor
