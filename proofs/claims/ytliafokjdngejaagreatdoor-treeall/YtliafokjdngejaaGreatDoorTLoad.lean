import Derived.Test.YtliafokjdngejaaGreatDoorTSound
import Derived.BigQuiet
import Derived.Deep.QuietTactic
import Derived.Test.YtliafokjdngejaaGreatDoorTSit
namespace Go.Proofs.YtliafokjdngejaaGreatDoor
open Go.RowKit Go.Maps Go.WideShapes
set_option linter.unusedVariables false
set_option linter.unusedSimpArgs false
attribute [local go_sem ↓] Go.wp_at_zero Go.wp_at_succ

set_option maxHeartbeats 3200000 in
set_option maxRecDepth 100000 in
theorem textsT_any (B1 B2 : Nat) (va vb : Value) (xs : List ByteArray) (w : World) (h1 : w.ownsRow B1 9 1 va xs.length (xs.map Value.string)) (h2 : w.ownsRow B2 9 1 vb xs.length (xs.map Value.string)) (hl : xs.length ≤ 1000) :
    Calls Tryz.prog 46 #[va, vb] w fun e w' => e = .returned (.bool true) ∧ Below w.heap.size w w' := by
  obtain ⟨a, c, rfl⟩ := slice_of h1
  obtain ⟨b, d, rfl⟩ := slice_of h2
  have H1 : Hid _ := h1
  have H2 : Hid _ := h2
  obtain ⟨N, hN⟩ : ∃ N, xs.length = N := ⟨_, rfl⟩
  have HN : Hid (xs.length = N) := hN
  rw [hN] at H1 H2 hl ⊢
  clear h1 h2 hN
  go_enter Tryz.func46, Tryz.ntmps46
  go_wp2_with fail
  go_loopw [5] (fun i wr => ∃ q : Nat, i = .int .i64 q ∧ q ≤ N ∧ Hid (Below w.heap.size w wr)) (fun i _ => N - (intOf i).toNat)
  case atStart => exact ⟨0, rfl, Nat.zero_le _, Below.refl _ _⟩
  case round =>
    obtain ⟨q, rfl, hq, HB⟩ := hrel
    by_cases hlt : q < N
    · have hlt' : (q : Int) < (N : Int) := by omega
      obtain ⟨x, hx⟩ : ∃ x, xs[q]? = some x := ⟨xs[q]'(by rw [HN.out]; exact hlt), List.getElem?_eq_getElem _⟩
      obtain ⟨g1, c1, e1⟩ := form_n H1.out (by omega)
      obtain ⟨g2, c2, e2⟩ := form_n H2.out (by omega)
      obtain ⟨rfl, rfl⟩ : a = some ⟨g1, 0, none⟩ ∧ c = c1 := by simpa using e1
      obtain ⟨rfl, rfl⟩ : b = some ⟨g2, 0, none⟩ ∧ d = c2 := by simpa using e2
      have l1 : g1 < w.heap.size := (World.ownsRow.lt H1.out g1 rfl).2
      have l2 : g2 < w.heap.size := (World.ownsRow.lt H2.out g2 rfl).2
      have k1 : wr.cell? ⟨g1, q, none⟩ = some (.string x) := by rw [HB.out.cell (p := ⟨g1, q, none⟩) l1]; exact cell_n H1.out (by rw [List.getElem?_map, hx]; rfl)
      have k2 : wr.cell? ⟨g2, q, none⟩ = some (.string x) := by rw [HB.out.cell (p := ⟨g2, q, none⟩) l2]; exact cell_n H2.out (by rw [List.getElem?_map, hx]; rfl)
      clear hx e1 e2
      go_upto_region 6 with fail
      go_quiet (fail)
      go_wp2_with fail
      go_roundw
      case rel => exact ⟨q + 1, by go_num, by omega, below_dN HB.out _⟩
      case measure => simp [intOf]; omega
    · obtain rfl : q = N := by omega
      go_wp2_with fail
      go_ret
      exact ⟨rfl, HB.out⟩
set_option maxHeartbeats 3200000 in
set_option maxRecDepth 100000 in
theorem sameT_any (B1 B2 g1 c1 g2 c2 : Nat) (T : List Nd) (w : World) (h1 : w.ownsRow B1 54 7 (.slice (some ⟨g1, 0, none⟩) T.length c1) T.length (T.flatMap Nd.cs)) (h2 : w.ownsRow B2 54 7 (.slice (some ⟨g2, 0, none⟩) T.length c2) T.length (T.flatMap Nd.cs)) (hl : T.length ≤ 1000) :
    Calls Tryz.prog 23 #[.slice (some ⟨g1, 0, none⟩) T.length c1, .slice (some ⟨g2, 0, none⟩) T.length c2] w fun e w' => e = .returned (.bool true) ∧ Below w.heap.size w w' := by
  have l1 : g1 < w.heap.size := (h1.lt g1 rfl).2
  have l2 : g2 < w.heap.size := (h2.lt g2 rfl).2
  have H1 : Hid (∀ (wr : World), Below w.heap.size w wr → ∀ q j x v, T[q]? = some x → x.cs[j]? = some v → wr.cell? ⟨g1, q * 7 + j, none⟩ = some v) := fun wr hb q j x v hx hv => by rw [hb.cell (p := ⟨g1, q * 7 + j, none⟩) l1]; exact nd_cell h1 hx hv
  have H2 : Hid (∀ (wr : World), Below w.heap.size w wr → ∀ q j x v, T[q]? = some x → x.cs[j]? = some v → wr.cell? ⟨g2, q * 7 + j, none⟩ = some v) := fun wr hb q j x v hx hv => by rw [hb.cell (p := ⟨g2, q * 7 + j, none⟩) l2]; exact nd_cell h2 hx hv
  obtain ⟨N, hN⟩ : ∃ N, T.length = N := ⟨_, rfl⟩
  have HN : Hid (T.length = N) := hN
  rw [hN] at hl ⊢
  clear h1 h2 hN
  go_enter Tryz.func23, Tryz.ntmps23
  go_wp2_with fail
  go_loopw [5] (fun i wr => ∃ q : Nat, i = .int .i64 q ∧ q ≤ N ∧ Hid (Below w.heap.size w wr)) (fun i _ => N - (intOf i).toNat)
  case atStart => exact ⟨0, rfl, Nat.zero_le _, Below.refl _ _⟩
  case round =>
    obtain ⟨q, rfl, hq, HB⟩ := hrel
    by_cases hlt : q < N
    · have hlt' : (q : Int) < (N : Int) := by omega
      obtain ⟨x, hx⟩ : ∃ x, T[q]? = some x := ⟨T[q]'(by rw [HN.out]; exact hlt), List.getElem?_eq_getElem _⟩
      have k0 : wr.cell? ⟨g1, q * 7, none⟩ = some (.string x.p) := H1.out wr HB.out q 0 x _ hx rfl
      have k1 := H1.out wr HB.out q 1 x _ hx rfl
      have k2 := H1.out wr HB.out q 2 x _ hx rfl
      have k3 := H1.out wr HB.out q 3 x _ hx rfl
      have k4 := H1.out wr HB.out q 4 x _ hx rfl
      have k5 := H1.out wr HB.out q 5 x _ hx rfl
      have k6 := H1.out wr HB.out q 6 x _ hx rfl
      have m0 : wr.cell? ⟨g2, q * 7, none⟩ = some (.string x.p) := H2.out wr HB.out q 0 x _ hx rfl
      have m1 := H2.out wr HB.out q 1 x _ hx rfl
      have m2 := H2.out wr HB.out q 2 x _ hx rfl
      have m3 := H2.out wr HB.out q 3 x _ hx rfl
      have m4 := H2.out wr HB.out q 4 x _ hx rfl
      have m5 := H2.out wr HB.out q 5 x _ hx rfl
      have m6 := H2.out wr HB.out q 6 x _ hx rfl
      clear hx
      go_upto_region 6 with fail
      go_quiet (fail)
      go_wp2_with fail
      go_roundw
      case rel => exact ⟨q + 1, by go_num, by omega, below_dN HB.out _⟩
      case measure => simp [intOf]; omega
    · obtain rfl : q = N := by omega
      go_wp2_with fail
      go_ret
      exact ⟨rfl, HB.out⟩
theorem beq_ne {a b : ByteArray} (h : a ≠ b) : (a.toList == b.toList) = false := by
  cases hb : (a.toList == b.toList) with
  | false => rfl
  | true =>
    exfalso
    have h1 : a.toList = b.toList := by simpa using hb
    rw [ByteArray.toList_eq, ByteArray.toList_eq] at h1
    exact h (ByteArray.ext (Array.ext' h1))
/-- What find answers. -/
def fndV (T : List Nd) (p : ByteArray) : Value := match fnd T p with | some x => x.V | none => zf
abbrev zN : Nd := ⟨⟨#[]⟩, ⟨#[]⟩, 0, 0, 0, 0, 0⟩
theorem fndV_n (T : List Nd) (p : ByteArray) : fndV T p = ((fnd T p).getD zN).V := by
  unfold fndV
  cases fnd T p <;> rfl
theorem fnd_at {T : List Nd} {p : ByteArray} {q : Nat} {x : Nd} (hx : T[q]? = some x) (hp : x.p = p) (hb : fnd (T.take q) p = none) : fnd T p = some x := by
  have hq := (List.getElem?_eq_some_iff.1 hx).1
  have e : T = T.take q ++ x :: T.drop (q + 1) := by
    conv => lhs; rw [← List.take_append_drop q T, List.drop_eq_getElem_cons hq]
    congr 2
    exact (List.getElem?_eq_some_iff.1 hx).2
  unfold fnd at hb ⊢
  rw [e, List.find?_append, hb, List.find?_cons]
  simp [hp]
theorem fnd_next {T : List Nd} {p : ByteArray} {q : Nat} {x : Nd} (hx : T[q]? = some x) (hp : x.p ≠ p) (hb : fnd (T.take q) p = none) : fnd (T.take (q + 1)) p = none := by
  unfold fnd at hb ⊢
  rw [List.take_add_one, hx, List.find?_append, hb]
  simp [hp]
set_option maxHeartbeats 3200000 in
set_option maxRecDepth 100000 in
theorem findT_any (B g cap : Nat) (T : List Nd) (p : ByteArray) (w : World) (h : w.ownsRow B 54 7 (.slice (some ⟨g, 0, none⟩) T.length cap) T.length (T.flatMap Nd.cs)) (hl : T.length ≤ 1000) :
    Calls Tryz.prog 20 #[.slice (some ⟨g, 0, none⟩) T.length cap, .string p] w fun e w' => e = .returned (.tuple #[fndV T p, .bool (fnd T p).isSome]) ∧ Below w.heap.size w w' := by
  have l1 : g < w.heap.size := (h.lt g rfl).2
  have H1 : Hid (∀ (wr : World), Below w.heap.size w wr → ∀ q j x v, T[q]? = some x → x.cs[j]? = some v → wr.cell? ⟨g, q * 7 + j, none⟩ = some v) := fun wr hb q j x v hx hv => by rw [hb.cell (p := ⟨g, q * 7 + j, none⟩) l1]; exact nd_cell h hx hv
  obtain ⟨N, hN⟩ : ∃ N, T.length = N := ⟨_, rfl⟩
  have HN : Hid (T.length = N) := hN
  rw [hN] at hl ⊢
  clear h hN
  go_enter Tryz.func20, Tryz.ntmps20
  go_wp2_with fail
  go_loopw [6] (fun i wr => ∃ q : Nat, i = .int .i64 q ∧ q ≤ N ∧ Hid (fnd (T.take q) p = none) ∧ Hid (wr.heap[w.heap.size]? = some (.cells #[.string ⟨#[]⟩, .string ⟨#[]⟩, .int .i64 0, .int .i64 0, .int .i64 0, .int .i64 0, .int .i64 0] 54 (0, 0))) ∧ Hid (Below w.heap.size w wr)) (fun i _ => N - (intOf i).toNat)
  case atStart => exact ⟨0, rfl, Nat.zero_le _, by show _ = _; rfl, heap_alloc_new _ _, (Below.refl _ _).alloc (Nat.le_refl _) _⟩
  case round =>
    obtain ⟨q, rfl, hq, HF, HZ, HB⟩ := hrel
    by_cases hlt : q < N
    · have hlt' : (q : Int) < (N : Int) := by omega
      obtain ⟨x, hx⟩ : ∃ x, T[q]? = some x := ⟨T[q]'(by rw [HN.out]; exact hlt), List.getElem?_eq_getElem _⟩
      have k0 : wr.cell? ⟨g, q * 7, none⟩ = some (.string x.p) := H1.out wr HB.out q 0 x _ hx rfl
      by_cases hp : x.p = p
      · have HE : Hid (fnd T p = some x) := fnd_at hx hp HF.out
        have k1 := H1.out wr HB.out q 1 x _ hx rfl
        have k2 := H1.out wr HB.out q 2 x _ hx rfl
        have k3 := H1.out wr HB.out q 3 x _ hx rfl
        have k4 := H1.out wr HB.out q 4 x _ hx rfl
        have k5 := H1.out wr HB.out q 5 x _ hx rfl
        have k6 := H1.out wr HB.out q 6 x _ hx rfl
        have hc : (x.p.toList == p.toList) = true := by rw [hp]; simp
        have hfz := free_7 HZ.out
        obtain ⟨b0, b1, b2, b3, b4, b5, b6⟩ := cells_7 HZ.out
        have hzl : w.heap.size < wr.heap.size := (Array.getElem?_eq_some_iff.1 HZ.out).1
        clear hx hp
        go_wp2_with fail
        exact bodyPost_ret (results_cell_tmp rfl _ _ w.heap.size 54 _ (0, 0) _ (.bool true) rfl rfl (fill_7 HZ.out) Tryz.underlying54 rfl (by kernel_rfl)) rfl ⟨by rw [fndV, HE.out]; rfl, fillB_7 HB.out (Nat.le_refl _)⟩
      · have HE : Hid (fnd (T.take (q + 1)) p = none) := fnd_next hx hp HF.out
        have hc : (x.p.toList == p.toList) = false := beq_ne hp
        clear hx hp
        go_wp2_with fail
        go_roundw
        case rel => exact ⟨q + 1, by go_num, by omega, HE.out, HZ.out, HB.out⟩
        case measure => simp [intOf]; omega
    · obtain rfl : q = N := by omega
      have HE : Hid (fnd T p = none) := by
        have := HF.out
        rw [List.take_of_length_le (by rw [HN.out]; omega)] at this
        exact this
      have hfz := free_7 HZ.out
      obtain ⟨b0, b1, b2, b3, b4, b5, b6⟩ := cells_7 HZ.out
      have hzl : w.heap.size < wr.heap.size := (Array.getElem?_eq_some_iff.1 HZ.out).1
      go_wp2_with fail
      exact bodyPost_ret (results_cell_tmp rfl _ _ w.heap.size 54 _ (0, 0) _ (.bool false) rfl rfl (fill_7 HZ.out) Tryz.underlying54 rfl (by kernel_rfl)) rfl ⟨by rw [fndV, HE.out]; rfl, fillB_7 HB.out (Nat.le_refl _)⟩
end Go.Proofs.YtliafokjdngejaaGreatDoor
namespace Go.Proofs.YtliafokjdngejaaGreatDoor
open Go.RowKit Go.Maps Go.WideShapes
set_option linter.unusedVariables false
set_option linter.unusedSimpArgs false

def NdR (x : Nd) : Prop := (0 ≤ x.m ∧ x.m ≤ 2147483647) ∧ (0 ≤ x.c ∧ x.c ≤ 2147483647) ∧ (0 ≤ x.o ∧ x.o ≤ 2147483647) ∧ (x.o ≠ 0 → x.k = 0)
def Rng (T : List Nd) : Prop := ∀ x ∈ T, NdR x
theorem rng_upd {T : List Nd} (h : Rng T) {y : Nd} (hy : NdR y) : Rng (upd T y) := fun x hx => by
  obtain ⟨z, hz, rfl⟩ := List.mem_map.1 hx
  by_cases e : z.p = y.p
  · rw [if_pos e]; exact hy
  · rw [if_neg e]; exact h z hz
theorem rng_one {T : List Nd} (h : Rng T) {s st : Int} (hs : 0 ≤ s ∧ s ≤ 2147483647) (ht : 1 ≤ st ∧ st ≤ 2147483647) (o : OpT) : Rng (oneM T s st o).2.1 := by
  unfold oneM
  split
  · exact h
  split
  · unfold makeM
    split
    · exact h
    rename_i u hfu
    have hu := h u (fnd_some hfu).1
    split
    · exact h
    rename_i huo
    have huo : u.o = 0 := by simpa using huo
    split
    · exact h
    split
    · exact h
    split
    · exact h
    intro x hx
    rcases List.mem_cons.1 ((ins_perm _ _).mem_iff.1 hx) with rfl | hx
    · refine ⟨⟨by show 0 ≤ st; omega, ht.2⟩, ⟨by show 0 ≤ st; omega, ht.2⟩, ?_, fun _ => rfl⟩
      show 0 ≤ (if o.f % 2 = 1 then s else 0) ∧ (if o.f % 2 = 1 then s else 0) ≤ 2147483647
      split
      · exact hs
      · omega
    · exact rng_upd h (y := { u with k := if 2 ≤ o.f then u.k + 1 else u.k }) ⟨hu.1, hu.2.1, hu.2.2.1, fun e => absurd huo e⟩ x hx
  · split
    · exact h
    rename_i x hf
    have hx := h x (fnd_some hf).1
    split
    · exact h
    unfold restM
    split
    · exact rng_upd h (y := { x with d := o.d, v := x.v + 1, c := st }) ⟨hx.1, ⟨by show 0 ≤ st; omega, ht.2⟩, hx.2.2.1, hx.2.2.2⟩
    split
    · exact fun y hy => h y (List.mem_filter.1 hy).1
    · exact h
theorem rng_playL {T0 : List Nd} (h0 : Rng T0) {s st : Int} (hs : 0 ≤ s ∧ s ≤ 2147483647) (ht : 1 ≤ st ∧ st ≤ 2147483647) : ∀ (os : List OpT) (i : Nat) (T : List Nd) (R : List ResT) (C : List ChT), Rng T → Rng (playL T0 s st os i T R C).T
  | [], _, _, _, _, h => h
  | o :: r, i, T, R, C, h => by
    unfold playL
    split
    · exact h0
    · exact rng_playL h0 hs ht r _ _ _ _ (rng_one h hs ht o)
theorem rng_play {T : List Nd} (h : Rng T) (s st : Int) (os : List OpT) : Rng (playM T s st os).T := by
  unfold playM
  split
  · exact h
  · rename_i hm
    have hm : mayC s st os.length = 0 := by simpa using hm
    unfold mayC at hm
    split at hm
    · cases hm
    split at hm
    · cases hm
    rename_i hb
    exact rng_playL h (by omega) (by omega) os 0 T [] [] h
theorem rng_fin {T : List Nd} (h : Rng T) (s : Int) : Rng (finT T s) := by
  unfold finT
  split
  · exact h
  · exact fun x hx => h x (List.mem_filter.1 hx).1
theorem rng_run {T : List Nd} (h : Rng T) (x : StT) : Rng (runS T x) := by
  unfold runS
  split
  · exact rng_play h _ _ _
  split
  · exact rng_fin h _
  · exact h
theorem rng_new : Rng [rootN] := fun x hx => by
  obtain rfl := List.mem_singleton.1 hx
  exact ⟨⟨by decide, by decide⟩, ⟨by decide, by decide⟩, ⟨by decide, by decide⟩, fun e => absurd rfl e⟩
end Go.Proofs.YtliafokjdngejaaGreatDoor
namespace Go.Proofs.YtliafokjdngejaaGreatDoor
open Go.RowKit Go.Maps Go.WideShapes
set_option linter.unusedVariables false
set_option linter.unusedSimpArgs false
attribute [local go_sem ↓] Go.wp_at_zero Go.wp_at_succ

theorem NdR.nums {x : Nd} (h : NdR x) (hv : 0 ≤ x.v ∧ x.v ≤ 2147483647) : ∀ (q : Nat) (y : Int), [x.v, x.m, x.c, x.o][q]? = some y → 0 ≤ y ∧ y ≤ 2147483647 := fun q y hy => by
  match q, hy with
  | 0, hy => obtain rfl : x.v = y := by simpa using hy
             exact hv
  | 1, hy => obtain rfl : x.m = y := by simpa using hy
             exact h.1
  | 2, hy => obtain rfl : x.c = y := by simpa using hy
             exact h.2.1
  | 3, hy => obtain rfl : x.o = y := by simpa using hy
             exact h.2.2.1
  | q + 4, hy => simp at hy
set_option maxHeartbeats 8000000 in
set_option maxRecDepth 100000 in
theorem mayHave_any (b n : Nat) (D : DataW Value) (x up : Nd) (th : Bool) (w : World) (hg : GroundT w) (hm : MapAt w b n D) (hx : NdR x) (hv : 0 ≤ x.v ∧ x.v ≤ 2147483647) (hd : x.d.size ≤ 64) (hk : 0 ≤ x.k ∧ x.k ≤ 100000) (hp : (parse x.p).1 = 0) (hl : look D (parB x.p) = up.V) (hh : Maps.has D (ky (parB x.p)) = th) (hr : (x.p = pRt ∧ x.o = 0) ∨ (x.p ≠ pRt ∧ th = true ∧ up.o = 0)) :
    Calls Tryz.prog 70 #[.map (some b), x.V] w fun e w' => e = .returned (.bool true) ∧ Below w.heap.size w w' := by
  have HPM : Hid (∀ W, Below w.heap.size w W → _) := fun W hb => parent_map b n D x.p up.p up.d up.v up.m up.c up.o up.k th W (hg.below hb) (map_below hm hb) (by have := par_size hp; unfold maxLen; omega) hl hh
  have HIB : Hid (∀ (y : Nd) W, _) := fun y W => fIsBrief_any y.p y.d y.v y.m y.c y.o y.k W
  have HX : Hid _ := hx
  have HV : Hid _ := hv
  have hd' : ¬ (64 : Int) < (x.d.size : Int) := by omega
  have hk0 : ¬ x.k < 0 := by omega
  have hk1 : ¬ (100000 : Int) < x.k := by omega
  clear hg hm hx hv hd hk hp hl hh
  go_enter Tryz.func70, Tryz.ntmps70
  go_upto_region 1 with fail
  obtain ⟨w1, hw1⟩ : ∃ y, w.alloc (.cells #[.string x.p, .string x.d, .int .i64 x.v, .int .i64 x.m, .int .i64 x.c, .int .i64 x.o, .int .i64 x.k] 54) = y := ⟨_, rfl⟩
  obtain ⟨nb, hnb⟩ : ∃ y, w.heap.size = y := ⟨_, rfl⟩
  have HB1 : Hid (Below w.heap.size w w1) := by rw [← hw1]; exact (Below.refl _ _).alloc (Nat.le_refl _) _
  have HN1 : Hid (w1.heap[nb]? = some (.cells #[.string x.p, .string x.d, .int .i64 x.v, .int .i64 x.m, .int .i64 x.c, .int .i64 x.o, .int .i64 x.k] 54 (0, 0))) := by rw [← hw1, ← hnb]; exact heap_alloc_new _ _
  rw [hw1, hnb]
  clear hw1 hnb
  obtain ⟨n0, n1, n2, n3, n4, n5, n6⟩ := cells_7 HN1.out
  go_wp2_with fail
  go_loopw [32] (fun i wr => ∃ q : Nat, i = .int .i64 q ∧ q ≤ 4 ∧ wr = w1) (fun i _ => 4 - (intOf i).toNat)
  case atStart => exact ⟨0, rfl, Nat.zero_le _, rfl⟩
  case round =>
    obtain ⟨q, rfl, hq, hwr⟩ := hrel
    have hwr' := hwr.symm
    subst hwr'
    by_cases hlt : q < 4
    · have hnum := NdR.nums HX.out HV.out
      rcases (show q = 0 ∨ q = 1 ∨ q = 2 ∨ q = 3 by omega) with rfl | rfl | rfl | rfl
      · have r1 := (hnum 0 _ rfl).1
        have ix : ∀ W, (Instr.index 156 (.agg #[.int .i64 x.v, .int .i64 x.m, .int .i64 x.c, .int .i64 x.o]) (.int .i64 0)).run Tryz.prog W = .ok (.int .i64 x.v) W := fun _ => by kernel_rfl
        have r2 := (hnum 0 _ rfl).2
        have r3 : ¬ x.v < 0 := by omega
        have r4 : ¬ (2147483647 : Int) < x.v := by omega
        clear hnum
        go_wp2_with fail
        go_roundw
        case rel => exact ⟨1, rfl, by omega, by trivial⟩
        case measure => simp [intOf]
      · have r1 := (hnum 1 _ rfl).1
        have ix : ∀ W, (Instr.index 156 (.agg #[.int .i64 x.v, .int .i64 x.m, .int .i64 x.c, .int .i64 x.o]) (.int .i64 1)).run Tryz.prog W = .ok (.int .i64 x.m) W := fun _ => by kernel_rfl
        have r2 := (hnum 1 _ rfl).2
        have r3 : ¬ x.m < 0 := by omega
        have r4 : ¬ (2147483647 : Int) < x.m := by omega
        clear hnum
        go_wp2_with fail
        go_roundw
        case rel => exact ⟨2, rfl, by omega, by trivial⟩
        case measure => simp [intOf]
      · have r1 := (hnum 2 _ rfl).1
        have ix : ∀ W, (Instr.index 156 (.agg #[.int .i64 x.v, .int .i64 x.m, .int .i64 x.c, .int .i64 x.o]) (.int .i64 2)).run Tryz.prog W = .ok (.int .i64 x.c) W := fun _ => by kernel_rfl
        have r2 := (hnum 2 _ rfl).2
        have r3 : ¬ x.c < 0 := by omega
        have r4 : ¬ (2147483647 : Int) < x.c := by omega
        clear hnum
        go_wp2_with fail
        go_roundw
        case rel => exact ⟨3, rfl, by omega, by trivial⟩
        case measure => simp [intOf]
      · have r1 := (hnum 3 _ rfl).1
        have ix : ∀ W, (Instr.index 156 (.agg #[.int .i64 x.v, .int .i64 x.m, .int .i64 x.c, .int .i64 x.o]) (.int .i64 3)).run Tryz.prog W = .ok (.int .i64 x.o) W := fun _ => by kernel_rfl
        have r2 := (hnum 3 _ rfl).2
        have r3 : ¬ x.o < 0 := by omega
        have r4 : ¬ (2147483647 : Int) < x.o := by omega
        clear hnum
        go_wp2_with fail
        go_roundw
        case rel => exact ⟨4, rfl, by omega, by trivial⟩
        case measure => simp [intOf]
    · obtain rfl : q = 4 := by omega
      go_wp2_with fail
      refine Calls.mono (HIB.out x w1) ?_
      rintro e w2 ⟨rfl, hb2⟩
      have HB2 : Hid (Below w.heap.size w w2) := trans2 HB1.out hb2
      have HN2 : Hid _ := kept_block hb2 HN1.out
      clear hb2 n0 n1 n2 n3 n4 n5 n6
      obtain ⟨n0, n1, n2, n3, n4, n5, n6⟩ := cells_7 HN2.out
      rcases hr with ⟨h1, h2⟩ | ⟨h1, h2, h3⟩
      · have e2 : decide (x.o ≠ 0) = false := by simp [h2]
        have HP2 : Hid (x.p = pRt) := h1
        rw [e2]
        rw [h1] at n0
        clear h1 h2 e2
        go_wp2_with fail
        refine Calls.mono (by have h9 := HPM.out w2 HB2.out; rw [HP2.out] at h9; exact h9) ?_
        rintro e w3 ⟨rfl, hb3⟩
        have HB3 : Hid (Below w.heap.size w w3) := trans2 HB2.out hb3
        have HN3 : Hid _ := kept_block hb3 HN2.out
        have hnl : nb < w3.heap.size := (Array.getElem?_eq_some_iff.1 HN3.out).1
        clear hb3 n0 n1 n2 n3 n4 n5 n6
        obtain ⟨n0, n1, n2, n3, n4, n5, n6⟩ := cells_7 HN3.out
        rw [HP2.out] at n0
        go_wp2_with fail
        go_ret
        exact ⟨rfl, HB3.out.alloc HB3.out.size _⟩
      · have hc : (x.p.toList == pRt.toList) = false := beq_ne h1
        have hc2 : (x.p.toList == [47]) = false := by
          cases h9 : (x.p.toList == [47]) with
          | false => rfl
          | true =>
            exfalso
            have h8 : x.p.toList = [47] := by simpa using h9
            rw [ByteArray.toList_eq] at h8
            exact h1 (ByteArray.ext (Array.ext' h8))
        subst h2
        have HU0 : Hid (up.o = 0) := h3
        have hob : (decide (x.o ≠ 0) = false) ∨ (decide (x.o ≠ 0) = true ∧ x.k = 0) := by
          by_cases ho : x.o = 0
          · exact .inl (by simp [ho])
          · exact .inr ⟨by simp [ho], HX.out.2.2.2 ho⟩
        clear h1 h3
        rcases hob with e2 | ⟨e2, e3⟩
        · rw [e2]
          clear e2
          go_wp2_with fail
          refine Calls.mono (HPM.out w2 HB2.out) ?_
          rintro e w3 ⟨rfl, hb3⟩
          have HB3 : Hid (Below w.heap.size w w3) := trans2 HB2.out hb3
          have HN3 : Hid _ := kept_block hb3 HN2.out
          have hnl : nb < w3.heap.size := (Array.getElem?_eq_some_iff.1 HN3.out).1
          clear hb3 n0 n1 n2 n3 n4 n5 n6
          obtain ⟨n0, n1, n2, n3, n4, n5, n6⟩ := cells_7 HN3.out
          go_wp2_with fail
          refine Calls.mono (HIB.out up _) ?_
          rintro e w4 ⟨rfl, hb4⟩
          have HB4 : Hid (Below w.heap.size w w4) := trans2 (HB3.out.alloc HB3.out.size _) hb4
          have e4 : decide (up.o ≠ 0) = false := by simp [HU0.out]
          rw [e4]
          clear hb4 e4
          go_wp2_with fail
          go_ret
          exact ⟨rfl, HB4.out⟩
        · rw [e2]
          rw [e3] at n6
          clear e2
          go_wp2_with fail
          refine Calls.mono (HPM.out w2 HB2.out) ?_
          rintro e w3 ⟨rfl, hb3⟩
          have HB3 : Hid (Below w.heap.size w w3) := trans2 HB2.out hb3
          have HN3 : Hid _ := kept_block hb3 HN2.out
          have hnl : nb < w3.heap.size := (Array.getElem?_eq_some_iff.1 HN3.out).1
          clear hb3 n0 n1 n2 n3 n4 n5 n6
          obtain ⟨n0, n1, n2, n3, n4, n5, n6⟩ := cells_7 HN3.out
          go_wp2_with fail
          refine Calls.mono (HIB.out up _) ?_
          rintro e w4 ⟨rfl, hb4⟩
          have HB4 : Hid (Below w.heap.size w w4) := trans2 (HB3.out.alloc HB3.out.size _) hb4
          have e4 : decide (up.o ≠ 0) = false := by simp [HU0.out]
          rw [e4]
          clear hb4 e4
          go_wp2_with fail
          go_ret
          exact ⟨rfl, HB4.out⟩
end Go.Proofs.YtliafokjdngejaaGreatDoor
