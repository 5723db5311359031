/-
  tree: a part, on the list of nodes; lists of what is seen.
-/
import Derived.Test.YtliafokjdngejabGreatDoorTReadA
import Derived.Test.YtliafokjdngejabGreatDoorTPart
namespace Go.Proofs.YtliafokjdngejabGreatDoor
open Go.RowKit Go.Maps Go.WideShapes
set_option linter.unusedVariables false
set_option linter.unusedSimpArgs false
attribute [local go_sem ↓] Go.wp_at_zero Go.wp_at_succ

theorem cells_3 {W : World} {b : Nat} {t : TypeId} {x0 x1 x2 : Value} (h : W.heap[b]? = some (.cells #[x0, x1, x2] t (0, 0))) : W.cell? ⟨b, 0, none⟩ = some x0 ∧ W.cell? ⟨b, 1, none⟩ = some x1 ∧ W.cell? ⟨b, 2, none⟩ = some x2 := by
  simp [World.cell?, h]
theorem free_3 {W : World} {b : Nat} {t : TypeId} {x0 x1 x2 : Value} (h : W.heap[b]? = some (.cells #[x0, x1, x2] t (0, 0))) (o : Nat) : W.frozen? ⟨b, o, none⟩ = false := by
  simp [World.frozen?, h]
structure SnT where
  p : ByteArray
  d : ByteArray
  v : Int
abbrev SnT.cs (x : SnT) : List Value := [.string x.p, .string x.d, .int .i64 x.v]
def snN (k : Int) (x : Nd) : SnT := ⟨x.p, sd k x.d, sv k x.v⟩
def parT (T : List Nd) (k : Int) (p : ByteArray) : List SnT := (T.filter (fun x => covers k p 1 x.p)).map (snN k)
theorem parT_len (T : List Nd) (k : Int) (p : ByteArray) : (parT T k p).length ≤ T.length := by
  unfold parT
  rw [List.length_map]
  exact List.length_filter_le _ _
theorem seenCs_T {D : DataW Value} {T : List Nd} (h : Rep D T) (k : Int) : ∀ U : List Nd, (∀ x ∈ U, x ∈ T) → seenCs k D (U.map Nd.by) = (U.map (snN k)).flatMap SnT.cs
  | [], _ => rfl
  | x :: r, hU => by
    have e : (⟨(Nd.by x).toArray⟩ : ByteArray) = x.p := ByteArray.ext (by simp [Nd.by])
    have ih := seenCs_T h k r (fun y hy => hU y (List.mem_cons_of_mem _ hy))
    unfold seenCs at ih ⊢
    rw [List.map_cons, List.map_cons, List.flatten_cons, ih, List.map_cons, List.flatMap_cons, e, h.look x (hU x List.mem_cons_self)]
    congr 1
    unfold seenOf snN sd sv
    by_cases hk : k = 2 <;> simp [hk, cellsOf]
theorem part_tr (B tb q : Nat) (T : List Nd) (k : Int) (p : ByteArray) (w : World) (hg : Ground w) (h : TrAt w B tb q T) (hp : (parse p).1 = 0) (hk : k = 1 ∨ k = 2 ∨ k = 3) :
    Calls Tryz.prog 10 #[.pointer (some ⟨tb, 0, none⟩), .string p, .int .i64 k] w fun e w' => ∃ a cap, e = .returned (.tuple #[.slice a (parT T k p).length cap, .int .i64 0]) ∧ w'.ownsRow w.heap.size 38 3 (.slice a (parT T k p).length cap) (parT T k p).length ((parT T k p).flatMap SnT.cs) ∧ Below w.heap.size w w' := by
  obtain ⟨mb, n, D, h1, h2, h3⟩ := h.at'
  refine Calls.mono (part_any sorts_to sorts_nil B tb mb n D k p w hg h1 (by rw [h2.size]; have := h.snd.inv.len; omega) (h2.wf h.snd.inv.sml) (by simpa [isP] using hp) hk) ?_
  rintro e w' ⟨a, cap, ts, rfl, hpm, ha, hr, hb⟩
  have h4 := (h.snd.inv.srt.filter (fun x => wF k p x.by)).only (hpm.trans (filter_keys h2 (wF k p))) ha
  have e1 : T.filter (fun x => wF k p x.by) = T.filter (fun x => covers k p 1 x.p) := rfl
  rw [e1] at h4
  subst h4
  rw [seenCs_T h2 k _ (fun x hx => (List.mem_filter.1 hx).1)] at hr
  have e2 : ((T.filter (fun x => covers k p 1 x.p)).map Nd.by).length = (parT T k p).length := by unfold parT; simp
  rw [e2] at hr ⊢
  exact ⟨a, cap, rfl, hr, hb⟩
set_option maxHeartbeats 3200000 in
theorem part_bad (B tb q : Nat) (T : List Nd) (k : Int) (p : ByteArray) (w : World) (hg : Ground w) (h : TrAt w B tb q T) (hp : (parse p).1 ≠ 0) :
    Calls Tryz.prog 10 #[.pointer (some ⟨tb, 0, none⟩), .string p, .int .i64 k] w fun e w' => e = .returned (.tuple #[.slice none 0 0, .int .i64 10]) ∧ Below w.heap.size w w' := by
  obtain ⟨mb, n, D, h1, _⟩ := h.at'
  have HN : Hid _ := isNone_at tb (some mb) w (cells_1 h1.box)
  have HP : Hid (Calls Tryz.prog 7 #[.string p] w (Parsed p w)) := parse_any p w hg
  obtain ⟨pc, hpc⟩ : ∃ pc, (parse p).1 = pc := ⟨_, rfl⟩
  have HPC : Hid ((parse p).1 = pc) := hpc
  rw [hpc] at hp
  have e1 : (pc != 0) = true := by simpa using hp
  clear hpc hp h h1 hg
  go_enter Tryz.func10, Tryz.ntmps10
  go_wp2_with (first
    | (go_at_call 21; refine Calls.mono HN.out ?_; rintro e w0 ⟨rfl, rfl⟩)
    | fail)
  refine Calls.mono HP.out ?_
  rintro e w1 ⟨a, c, rfl, _, hb⟩
  have HB : Hid _ := hb
  rw [HPC.out]
  clear hb
  go_wp2_with fail
  go_ret2
  exact ⟨rfl, HB.out⟩
set_option maxHeartbeats 3200000 in
theorem part_arg (B tb q : Nat) (T : List Nd) (k : Int) (p : ByteArray) (w : World) (hg : Ground w) (h : TrAt w B tb q T) (hp : (parse p).1 = 0) (hk : k < 1 ∨ 3 < k) :
    Calls Tryz.prog 10 #[.pointer (some ⟨tb, 0, none⟩), .string p, .int .i64 k] w fun e w' => e = .returned (.tuple #[.slice none 0 0, .int .i64 1]) ∧ Below w.heap.size w w' := by
  obtain ⟨mb, n, D, h1, _⟩ := h.at'
  have HN : Hid _ := isNone_at tb (some mb) w (cells_1 h1.box)
  have HP : Hid (Calls Tryz.prog 7 #[.string p] w (Parsed p w)) := parse_any p w hg
  have HPC : Hid ((parse p).1 = 0) := hp
  have e1 : (k != 1) = true := by simp; omega
  have e2 : (k != 2) = true := by simp; omega
  have e3 : (k != 3) = true := by simp; omega
  clear hp h h1 hg hk
  go_enter Tryz.func10, Tryz.ntmps10
  go_wp2_with (first
    | (go_at_call 21; refine Calls.mono HN.out ?_; rintro e w0 ⟨rfl, rfl⟩)
    | fail)
  refine Calls.mono HP.out ?_
  rintro e w1 ⟨a, c, rfl, _, hb⟩
  have HB : Hid _ := hb
  rw [HPC.out]
  clear hb
  go_wp2_with fail
  go_ret2
  exact ⟨rfl, HB.out⟩
/-- What is seen in a row. -/
theorem sn_cell {w : World} {B g cap : Nat} {L : List SnT} (h : w.ownsRow B 38 3 (.slice (some ⟨g, 0, none⟩) L.length cap) L.length (L.flatMap SnT.cs)) {q j : Nat} {x : SnT} {v : Value} (hx : L[q]? = some x) (hv : x.cs[j]? = some v) : w.cell? ⟨g, q * 3 + j, none⟩ = some v :=
  cell_n h (flat_at SnT.cs 3 (fun _ => rfl) L q j x v hx hv)
set_option maxHeartbeats 3200000 in
set_option maxRecDepth 100000 in
theorem seenT_any (B1 B2 : Nat) (va vb : Value) (L : List SnT) (w : World) (h1 : w.ownsRow B1 38 3 va L.length (L.flatMap SnT.cs)) (h2 : w.ownsRow B2 38 3 vb L.length (L.flatMap SnT.cs)) (hl : L.length ≤ 1000) :
    Calls Tryz.prog 12 #[va, vb] w fun e w' => e = .returned (.bool true) ∧ Below w.heap.size w w' := by
  obtain ⟨a, c, rfl⟩ := slice_of h1
  obtain ⟨b, d, rfl⟩ := slice_of h2
  have H1 : Hid _ := h1
  have H2 : Hid _ := h2
  obtain ⟨N, hN⟩ : ∃ N, L.length = N := ⟨_, rfl⟩
  have HN : Hid (L.length = N) := hN
  rw [hN] at hl ⊢
  clear h1 h2 hN
  go_enter Tryz.func12, Tryz.ntmps12
  go_wp2_with fail
  go_loopw [5] (fun i wr => ∃ q : Nat, i = .int .i64 q ∧ q ≤ N ∧ Hid (Below w.heap.size w wr)) (fun i _ => N - (intOf i).toNat)
  case atStart => exact ⟨0, rfl, Nat.zero_le _, Below.refl _ _⟩
  case round =>
    obtain ⟨q, rfl, hq, HB⟩ := hrel
    by_cases hlt : q < N
    · have hlt' : (q : Int) < (N : Int) := by omega
      obtain ⟨x, hx⟩ : ∃ x, L[q]? = some x := ⟨L[q]'(by rw [HN.out]; exact hlt), List.getElem?_eq_getElem _⟩
      obtain ⟨g1, c1, e1⟩ := form_n H1.out (by rw [HN.out]; omega)
      obtain ⟨g2, c2, e2⟩ := form_n H2.out (by rw [HN.out]; omega)
      obtain ⟨rfl, rfl⟩ : a = some ⟨g1, 0, none⟩ ∧ c = c1 := by simpa using e1
      obtain ⟨rfl, rfl⟩ : b = some ⟨g2, 0, none⟩ ∧ d = c2 := by simpa using e2
      have l1 : g1 < w.heap.size := (World.ownsRow.lt H1.out g1 rfl).2
      have l2 : g2 < w.heap.size := (World.ownsRow.lt H2.out g2 rfl).2
      have hk1 : ∀ j v, x.cs[j]? = some v → wr.cell? ⟨g1, q * 3 + j, none⟩ = some v := fun j v hv => by rw [HB.out.cell (p := ⟨g1, q * 3 + j, none⟩) l1]; exact sn_cell H1.out hx hv
      have hk2 : ∀ j v, x.cs[j]? = some v → wr.cell? ⟨g2, q * 3 + j, none⟩ = some v := fun j v hv => by rw [HB.out.cell (p := ⟨g2, q * 3 + j, none⟩) l2]; exact sn_cell H2.out hx hv
      have k0 : wr.cell? ⟨g1, q * 3, none⟩ = some (.string x.p) := hk1 0 _ rfl
      have k1 := hk1 1 _ rfl
      have k2 := hk1 2 _ rfl
      have m0 : wr.cell? ⟨g2, q * 3, none⟩ = some (.string x.p) := hk2 0 _ rfl
      have m1 := hk2 1 _ rfl
      have m2 := hk2 2 _ rfl
      clear hx e1 e2 hk1 hk2
      go_upto_region 6 with fail
      go_quiet (fail)
      go_wp2_with fail
      go_roundw
      case rel => exact ⟨q + 1, by go_num, by omega, below_dN HB.out _⟩
      case measure => simp [intOf]; omega
    · obtain rfl : q = N := by omega
      go_wp2_with fail
      go_ret
      exact ⟨rfl, HB.out⟩
/-- What lies below a place that is not there is not there. -/
theorem Snd.below {T : List Nd} (h : Snd T) {p : ByteArray} (hp : (parse p).1 = 0) : ∀ (n : Nat) (y : Nd), y ∈ T → (parse y.p).2.length ≤ n → Bel (parse p).2 (parse y.p).2 → ∃ u ∈ T, u.p = p
  | n, y, hy, hn, hb => by
    have hyp := (h.inv.nd y hy).1
    have hyr : y.p ≠ pRt := fun e => by
      have h9 := hb
      rw [e, show parse pRt = (0, []) by kernel_rfl] at h9
      obtain ⟨h1, _⟩ := h9
      simp at h1
    obtain ⟨xs, k, x, hx, hl, hk, _⟩ := names_of hyp hyr
    obtain ⟨u, hu, hup, _⟩ := h.up y hy hyr
    rw [par_of (x := x) hx hl] at hup
    have hlen := parse_len hx
    have hup2 : parse u.p = (0, xs.take k) := by
      rw [hup]
      exact parse_place (by rw [List.length_take]; omega) (all_take hlen.2 k)
    rw [hx] at hb hn
    have hn : xs.length ≤ n := hn
    obtain ⟨h1, h2⟩ := hb
    by_cases hek : (parse p).2.length = k
    · refine ⟨u, hu, ?_⟩
      rw [hup]
      have h3 : (parse p).2 = xs.take k := by rw [← hek]; exact h2.symm
      rw [← h3]
      exact parse_back (by rw [← hp])
    · match n, hn with
      | 0, hn => omega
      | n + 1, hn =>
        refine Snd.below h hp n u hu (by rw [hup2]; simp; omega) ?_
        rw [hup2]
        refine ⟨by rw [List.length_take]; show _ < _; have : (parse p).2.length < xs.length := h1; omega, ?_⟩
        rw [List.take_take, Nat.min_eq_left (by have : (parse p).2.length < xs.length := h1; omega)]
        exact h2
theorem part_none {T : List Nd} (h : Snd T) {p : ByteArray} (hp : (parse p).1 = 0) (hf : fnd T p = none) (k : Int) : parT T k p = [] := by
  unfold parT
  rw [List.map_eq_nil_iff, List.filter_eq_nil_iff]
  intro y hy hc
  have hyp := (h.inv.nd y hy).1
  have hne := fnd_none hf y hy
  have e1 : eqB y.p p = false := beq_ne hne
  have hbel : Bel (parse p).2 (parse y.p).2 → False := fun hb => by
    obtain ⟨u, hu, e⟩ := h.below hp _ y hy (Nat.le_refl _) hb
    exact fnd_none hf u hu e
  have e3 : belB p y.p = false := by
    unfold belB
    exact decide_eq_false hbel
  have e2 : childB p y.p = false := by
    cases hcb : childB p y.p with
    | false => rfl
    | true =>
      exfalso
      by_cases hyr : y.p = pRt
      · rw [hyr] at hcb
        cases hcb
      · obtain ⟨xs, j, x, hx, hl, _, _⟩ := names_of hyp hyr
        have h9 : parB y.p = p := by
          unfold childB at hcb
          rw [hx] at hcb
          simp only [hl, Nat.add_sub_cancel] at hcb
          rw [← par_of (x := x) hx hl] at hcb
          have h8 : (parB y.p).toList = p.toList := by
            have := (Bool.and_eq_true _ _ ▸ hcb).2
            simpa using this
          rw [ByteArray.toList_eq, ByteArray.toList_eq] at h8
          exact ByteArray.ext (Array.ext' h8)
        obtain ⟨u, hu, hup, _⟩ := h.up y hy hyr
        exact fnd_none hf u hu (hup.trans h9)
  unfold covers cov at hc
  rw [e1, e2, e3] at hc
  simp at hc
end Go.Proofs.YtliafokjdngejabGreatDoor
