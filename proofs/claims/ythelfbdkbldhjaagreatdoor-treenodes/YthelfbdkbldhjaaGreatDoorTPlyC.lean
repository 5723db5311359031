/-
  tree: Load.
-/
import Derived.Test.YthelfbdkbldhjaaGreatDoorTLoad
import Derived.Test.YthelfbdkbldhjaaGreatDoorTSound
import Derived.Test.YthelfbdkbldhjaaGreatDoorTOne
import Derived.Deep.CutRange
import Derived.Test.YthelfbdkbldhjaaGreatDoorTRefF
import Derived.Test.YthelfbdkbldhjaaGreatDoorTRefZ
namespace Go.Proofs.YthelfbdkbldhjaaGreatDoor
open Go.RowKit Go.Maps Go.WideShapes
set_option linter.unusedVariables false
set_option linter.unusedSimpArgs false
attribute [local go_sem ↓] Go.wp_at_zero Go.wp_at_succ

def lastP (T : List Nd) (q : Nat) : ByteArray := (((T.take q).getLast?).map Nd.p).getD ⟨#[]⟩
theorem lastP_next {T : List Nd} {q : Nat} {x : Nd} (hx : T[q]? = some x) : lastP T (q + 1) = x.p := by
  unfold lastP
  rw [List.take_add_one, hx]
  simp
theorem last_less {T : List Nd} (h : Snd T) {q : Nat} {x : Nd} (hx : T[q]? = some x) : O (lastP T q) x.p = -1 ∧ (lastP T q).size ≤ 1000 := by
  cases q with
  | zero =>
    have e : lastP T 0 = ⟨#[]⟩ := by simp [lastP]
    rw [e]
    refine ⟨?_, by decide⟩
    rw [O_list]
    have hne : x.p.data.toList ≠ [] := fun e9 => by
      have hp := (h.inv.nd x (List.mem_of_getElem? hx)).1
      have : x.p = ⟨#[]⟩ := ByteArray.ext (Array.ext' e9)
      rw [this] at hp
      revert hp
      decide +kernel
    match hl : x.p.data.toList with
    | [] => exact absurd hl hne
    | _ :: _ => rfl
  | succ q =>
    have hl := (List.getElem?_eq_some_iff.1 hx).1
    obtain ⟨y, hy⟩ : ∃ y, T[q]? = some y := ⟨T[q], List.getElem?_eq_getElem (by omega)⟩
    rw [lastP_next hy]
    exact ⟨h.order hy hx, Nat.le_trans (size_of_parse (h.inv.nd y (List.mem_of_getElem? hy)).1) (by decide)⟩
theorem rep_nil : Rep (.map []) [] := by
  refine ⟨by simp [Tidy], ⟨[], rfl, fun p hp => ?_⟩, fun s => ?_, fun x hx => ?_, by simp⟩
  · cases hp
  · constructor
    · intro h
      simp [Maps.has] at h
    · rintro ⟨x, hx, _⟩
      cases hx
  · cases hx
theorem rep_next {D : DataW Value} {T : List Nd} (hi : Inv T) {q : Nat} {x : Nd} (hx : T[q]? = some x) (h : Rep D (T.take q)) : Rep (D.put (ky x.p) (.held x.V)) (T.take (q + 1)) := by
  have h1 := h.put x
  have hq := (List.getElem?_eq_some_iff.1 hx).1
  have e1 : (T.take q).filter (fun y => decide (y.p ≠ x.p)) = T.take q := by
    rw [List.filter_eq_self]
    intro y hy
    have hne : y.p ≠ x.p := fun e => by
      obtain ⟨j, hj⟩ := List.mem_iff_getElem?.1 hy
      rw [List.getElem?_take] at hj
      split at hj
      · rename_i hjq
        obtain ⟨h2, e2⟩ := List.getElem?_eq_some_iff.1 hj
        have := List.pairwise_iff_getElem.1 hi.srt j q h2 hq hjq
        rw [e2, (List.getElem?_eq_some_iff.1 hx).2, e, O_self] at this
        cases this
      · cases hj
    simpa using hne
  rw [e1] at h1
  refine h1.perm ?_
  rw [List.take_add_one, hx]
  exact List.perm_append_singleton x _
theorem up_there {T : List Nd} (h : Snd T) {D : DataW Value} {q : Nat} {x : Nd} (hx : T[q]? = some x) (hr : Rep D (T.take q)) : ∃ (up : Nd) (th : Bool), look D (parB x.p) = up.V ∧ Maps.has D (ky (parB x.p)) = th ∧ ((x.p = pRt ∧ x.o = 0) ∨ (x.p ≠ pRt ∧ th = true ∧ up.o = 0)) := by
  cases q with
  | zero =>
    obtain ⟨r, hr0, hrp, hro⟩ := h.first
    rw [hx] at hr0
    obtain rfl := Option.some.inj hr0
    have hf : fnd (T.take 0) (parB x.p) = none := rfl
    exact ⟨zN, false, hr.look_none hf, by rw [hr.has_fnd, hf]; rfl, .inl ⟨hrp, hro⟩⟩
  | succ q =>
    obtain ⟨hxr, k, u, hk, hu, hup, huo⟩ := h.above (by omega) hx
    have hm : u ∈ T.take (q + 1) := List.mem_of_getElem? (i := k) (by rw [List.getElem?_take, if_pos hk]; exact hu)
    exact ⟨u, true, by rw [← hup]; exact hr.look u hm, by rw [hr.has]; exact ⟨u, hm, hup⟩, .inr ⟨hxr, rfl, huo⟩⟩

set_option maxHeartbeats 8000000 in
set_option maxRecDepth 100000 in
theorem load_any (B g cap : Nat) (T : List Nd) (w : World) (hS : Snd T) (hR : Rng T) (hr : w.ownsRow B 45 7 (.slice (some ⟨g, 0, none⟩) T.length cap) T.length (T.flatMap Nd.cs)) (hg : GroundT w) :
    Calls Tryz.prog 29 #[.slice (some ⟨g, 0, none⟩) T.length cap] w fun e w' => ∃ ub, e = .returned (.tuple #[.pointer (some ⟨ub, 0, none⟩), .int .i64 0]) ∧ TrAt w' w.heap.size ub 8 T ∧ Below w.heap.size w w' := by
  have HS : Hid (Snd T) := hS
  have HRG : Hid (Rng T) := hR
  have HG : Hid (GroundT w) := hg
  have hgl : g < w.heap.size := (hr.lt g rfl).2
  have HND : Hid (∀ (wr : World), Below w.heap.size w wr → ∀ q j x v, T[q]? = some x → x.cs[j]? = some v → wr.cell? ⟨g, q * 7 + j, none⟩ = some v) := fun wr hb q j x v hx hv => by rw [hb.cell (p := ⟨g, q * 7 + j, none⟩) hgl]; exact nd_cell hr hx hv
  obtain ⟨N, hN⟩ : ∃ N, T.length = N := ⟨_, rfl⟩
  have HN : Hid (T.length = N) := hN
  have hN64 : N ≤ 64 := by rw [← hN]; exact hS.inv.len
  have hN1 : 1 ≤ N := by rw [← hN]; exact List.length_pos_iff.2 hS.ne
  have hn' : ¬ (64 : Int) < (N : Int) := by omega
  have hmm := @run_makeMap Tryz.prog
  rw [hN]
  clear hr hg hS hR hN
  go_enter Tryz.func29, Tryz.ntmps29
  go_upto_region 4 with fail
  obtain ⟨w0, hw0⟩ : ∃ y, w.alloc (.map #[] 0) = y := ⟨_, rfl⟩
  obtain ⟨mb, hmb⟩ : ∃ y, w.heap.size = y := ⟨_, rfl⟩
  have HB0 : Hid (Below w.heap.size w w0) := by rw [← hw0]; exact (Below.refl _ _).alloc (Nat.le_refl _) _
  have HM0 : Hid (MapAt w0 mb 0 (.map [])) := by rw [← hw0, ← hmb]; exact World.ownsMap_made w Tryz.prog 9 raw
  have HMB : Hid (w.heap.size = mb) := hmb
  rw [hw0, hmb]
  clear hw0 hmb hmm
  go_wp2_with fail
  go_loopw [5, 14] (fun lv i wr => ∃ (q : Nat) (D : DataW Value), i = .int .i64 q ∧ q ≤ N ∧ lv = .string (lastP T q) ∧ Hid (Rep D (T.take q)) ∧ Hid (MapAt wr mb q D) ∧ Hid (Below w.heap.size w wr)) (fun _ i _ => N - (intOf i).toNat)
  case atStart => exact ⟨0, .map [], rfl, Nat.zero_le _, by simp [lastP], rep_nil, HM0.out, HB0.out⟩
  case round =>
    obtain ⟨q, D, rfl, hq, rfl, HRD, HMD, HB⟩ := hrel
    by_cases hlt : q < N
    · have hlt' : (q : Int) < (N : Int) := by omega
      obtain ⟨x, hx⟩ : ∃ x, T[q]? = some x := ⟨T[q]'(by rw [HN.out]; exact hlt), List.getElem?_eq_getElem _⟩
      have hxm := List.mem_of_getElem? hx
      have hxn := HS.out.inv.nd x hxm
      have hxs := size_of_parse hxn.1
      obtain ⟨hO, hls⟩ := last_less HS.out hx
      obtain ⟨up, th, hl1, hl2, hl3⟩ := up_there HS.out hx HRD.out
      obtain ⟨la, hla⟩ : ∃ la, lastP T q = la := ⟨_, rfl⟩
      rw [hla] at hO hls ⊢
      have HOR : Hid (∀ W : World, Calls Tryz.prog 47 #[.string la, .string x.p] W fun e w' => e = .returned (.int .i64 (-1)) ∧ ∃ m, w' = W.drewN m) := fun W => by
        have h9 := order_O la x.p (by unfold maxLen; omega) (by unfold maxLen; omega) W
        rw [hO] at h9
        exact h9
      have HMH : Hid (∀ W, Below wr.heap.size wr W → Calls Tryz.prog 48 #[.map (some mb), x.V] W fun e w' => e = .returned (.bool true) ∧ Below W.heap.size W w') := fun W hb => mayHave_any mb q D x up th W (HG.out.below (trans2 HB.out hb)) (map_below HMD.out hb) (HRG.out x hxm) ⟨hxn.2.2.1, hxn.2.2.2.1⟩ hxn.2.1 ⟨hxn.2.2.2.2.1, hxn.2.2.2.2.2⟩ hxn.1 hl1 hl2 hl3
      have HPT : Hid (∀ W, Below wr.heap.size wr W → _) := fun W hb => put_any mb q D x.p x.d x.v x.m x.c x.o x.k (by omega) (by have := hxn.2.1; omega) W (map_below HMD.out hb) (by omega)
      have HRN : Hid (Rep (D.put (ky x.p) (.held x.V)) (T.take (q + 1))) := rep_next HS.out.inv hx HRD.out
      have HLP : Hid (lastP T (q + 1) = x.p) := lastP_next hx
      have hgr : g < wr.heap.size := Nat.lt_of_lt_of_le hgl HB.out.size
      have n0 : wr.cell? ⟨g, q * 7, none⟩ = some (.string x.p) := HND.out wr HB.out q 0 x _ hx rfl
      have n1 := HND.out wr HB.out q 1 x _ hx rfl
      have n2 := HND.out wr HB.out q 2 x _ hx rfl
      have n3 := HND.out wr HB.out q 3 x _ hx rfl
      have n4 := HND.out wr HB.out q 4 x _ hx rfl
      have n5 := HND.out wr HB.out q 5 x _ hx rfl
      have n6 := HND.out wr HB.out q 6 x _ hx rfl
      clear hx hxm hxn hxs hO hls hl1 hl2 hl3 hla
      go_upto_region 8 with fail
      obtain ⟨w1, hw1⟩ : ∃ y, wr.alloc (.cells #[.string x.p, .string x.d, .int .i64 x.v, .int .i64 x.m, .int .i64 x.c, .int .i64 x.o, .int .i64 x.k] 45) = y := ⟨_, rfl⟩
      obtain ⟨nb, hnb⟩ : ∃ y, wr.heap.size = y := ⟨_, rfl⟩
      have HB1 : Hid (Below wr.heap.size wr w1) := by rw [← hw1]; exact (Below.refl _ _).alloc (Nat.le_refl _) _
      have HN1 : Hid (w1.heap[nb]? = some (.cells #[.string x.p, .string x.d, .int .i64 x.v, .int .i64 x.m, .int .i64 x.c, .int .i64 x.o, .int .i64 x.k] 45 (0, 0))) := by rw [← hw1, ← hnb]; exact heap_alloc_new _ _
      rw [hw1, hnb]
      clear hw1 hnb n0 n1 n2 n3 n4 n5 n6
      obtain ⟨n0, n1, n2, n3, n4, n5, n6⟩ := cells_7 HN1.out
      go_wp2_with fail
      refine Calls.mono (HOR.out w1) ?_
      rintro e w2 ⟨rfl, m2, hw2⟩
      have HB2 : Hid (Below wr.heap.size wr w2) := by rw [hw2]; exact below_dN HB1.out _
      have HN2 : Hid (w2.heap[nb]? = some (.cells #[.string x.p, .string x.d, .int .i64 x.v, .int .i64 x.m, .int .i64 x.c, .int .i64 x.o, .int .i64 x.k] 45 (0, 0))) := by rw [hw2]; exact HN1.out
      clear hw2 n0 n1 n2 n3 n4 n5 n6
      obtain ⟨n0, n1, n2, n3, n4, n5, n6⟩ := cells_7 HN2.out
      go_wp2_with fail
      refine Calls.mono (HMH.out w2 HB2.out) ?_
      rintro e w3 ⟨rfl, hb3⟩
      have HB3 : Hid (Below wr.heap.size wr w3) := trans2 HB2.out hb3
      have HN3 : Hid _ := kept_block hb3 HN2.out
      clear hb3 n0 n1 n2 n3 n4 n5 n6
      obtain ⟨n0, n1, n2, n3, n4, n5, n6⟩ := cells_7 HN3.out
      go_wp2_with fail
      refine Calls.mono (HPT.out w3 HB3.out) ?_
      rintro e w4 ⟨rfl, hm4, hc4⟩
      have HM4 : Hid (MapAt w4 mb (q + 1) (D.put (ky x.p) (.held x.V))) := hm4
      have HN4 : Hid (w4.heap[nb]? = some (.cells #[.string x.p, .string x.d, .int .i64 x.v, .int .i64 x.m, .int .i64 x.c, .int .i64 x.o, .int .i64 x.k] 45 (0, 0))) := by
        show _ = _
        rw [hc4.block nb (Array.getElem?_eq_some_iff.1 HN3.out).1 (fun e => ?_)]
        · exact HN3.out
        · obtain ⟨es, clock, hb, _⟩ := map_below HMD.out HB3.out
          have h9 := HN3.out
          rw [show nb = mb from e, hb] at h9
          cases h9
      have HB4 : Hid (Below w.heap.size w w4) := (trans2 HB.out HB3.out).trans (hc4.below (trans2 HB.out HB3.out).size (fun j _ e => by rw [show j = mb from e, HMB.out]; exact Nat.le_refl _))
      clear hm4 hc4 n0 n1 n2 n3 n4 n5 n6
      obtain ⟨n0, n1, n2, n3, n4, n5, n6⟩ := cells_7 HN4.out
      go_wp2_with fail
      go_roundw
      case rel => exact ⟨q + 1, _, by go_num, by omega, by rw [HLP.out], HRN.out, HM4.out, HB4.out⟩
      case measure => simp [intOf]; omega
    · obtain rfl : q = N := by omega
      have HRT : Hid (Rep D T) := by
        have h9 := HRD.out
        rw [List.take_of_length_le (by rw [HN.out]; exact Nat.le_refl _)] at h9
        exact h9
      have HSZ : Hid (Maps.size D = q) := by show _ = _; rw [HRT.out.size]; exact HN.out
      have hz : ¬ (q : Int) = 0 := by omega
      have hz2 : ((q : Int) == 0) = false := by simpa using hz
      go_wp2_with (first
        | (at_len; refine wpList_len_own _ rfl _ 47 rfl 9 45 Tryz.underlying47 raw mb q D rfl HMD.out ?_; rw [HSZ.out])
        | fail)
      go_ret2
      have hmb := HMD.out.lt
      refine ⟨wr.heap.size, rfl, ⟨⟨mb, q, D, ⟨heap_alloc_new _ _, World.ownsMap.alloc HMD.out _, HB.out.size, by rw [HMB.out]; exact Nat.le_refl _⟩, HRT.out, by omega⟩, HS.out⟩, HB.out.alloc HB.out.size _⟩
end Go.Proofs.YthelfbdkbldhjaaGreatDoor
namespace Go.Proofs.YthelfbdkbldhjaaGreatDoor
open Go.RowKit Go.Maps Go.WideShapes
set_option linter.unusedVariables false
set_option linter.unusedSimpArgs false
attribute [local go_sem ↓] Go.wp_at_zero Go.wp_at_succ

theorem one_kids {T : List Nd} (h : Inv T) (s st : Int) (o : OpT) : (oneM T s st o).2.2.1.kids.length ≤ 64 := by
  unfold oneM
  split
  · exact Nat.zero_le _
  split
  · unfold makeM
    split
    · exact Nat.zero_le _
    split
    · exact Nat.zero_le _
    split
    · exact Nat.zero_le _
    split
    · exact Nat.zero_le _
    split
    · exact Nat.zero_le _
    · exact Nat.zero_le _
  split
  · exact Nat.zero_le _
  split
  · exact Nat.zero_le _
  unfold restM
  split
  · exact Nat.zero_le _
  split
  · exact Nat.zero_le _
  · show (if _ then _ else _ : List ByteArray).length ≤ 64
    split
    · unfold kidsM
      rw [List.length_map]
      exact Nat.le_trans (List.length_filter_le _ _) h.len
    · exact Nat.zero_le _
theorem play_kids {T0 : List Nd} (s st : Int) : ∀ (os : List OpT) (i : Nat) (T : List Nd) (R : List ResT) (C : List ChT), Inv T → (∀ r ∈ R, r.kids.length ≤ 64) → ∀ r ∈ (playL T0 s st os i T R C).R, r.kids.length ≤ 64
  | [], _, _, _, _, _, h => h
  | o :: r, i, T, R, C, hi, h => by
    unfold playL
    split
    · intro r hr
      cases hr
    · exact play_kids s st r _ _ _ _ (oneM_inv hi s st o) (fun y hy => by
        rcases List.mem_append.1 hy with hy | hy
        · exact h y hy
        · obtain rfl := List.mem_singleton.1 hy
          exact one_kids hi s st o)
theorem playM_kids {T : List Nd} (hi : Inv T) (s st : Int) (os : List OpT) : ∀ r ∈ (playM T s st os).R, r.kids.length ≤ 64 := by
  unfold playM
  split
  · intro r hr
    cases hr
  · exact play_kids s st os 0 T [] [] hi (fun r hr => by cases hr)
theorem play_lens (T : List Nd) (s st : Int) (os : List OpT) : (playM T s st os).R.length ≤ 4 ∧ (playM T s st os).C.length ≤ 4 := by
  have main : ∀ (os : List OpT) (i : Nat) (T0 T : List Nd) (R : List ResT) (C : List ChT), (playL T0 s st os i T R C).R.length ≤ R.length + os.length ∧ (playL T0 s st os i T R C).C.length ≤ C.length + os.length := by
    intro os
    induction os with
    | nil => intro i T0 T R C; exact ⟨Nat.le_refl _, Nat.le_refl _⟩
    | cons o r ih =>
      intro i T0 T R C
      unfold playL
      split
      · exact ⟨Nat.zero_le _, Nat.zero_le _⟩
      · have h9 := ih (i + 1) T0 (oneM T s st o).2.1 (R ++ [(oneM T s st o).2.2.1]) (C ++ (oneM T s st o).2.2.2)
        have := oneM_ch T s st o
        rw [List.length_append, List.length_append] at h9
        simp only [List.length_cons, List.length_nil] at h9 ⊢
        omega
  by_cases h : 4 < os.length
  · unfold playM
    rw [if_pos (by unfold mayC; rw [if_pos h]; decide)]
    exact ⟨Nat.zero_le _, Nat.zero_le _⟩
  · unfold playM
    split
    · exact ⟨Nat.zero_le _, Nat.zero_le _⟩
    · have := main os 0 T T [] []
      simp at this
      omega
end Go.Proofs.YthelfbdkbldhjaaGreatDoor
namespace Go.Proofs.YthelfbdkbldhjaaGreatDoor
open Go.RowKit Go.Maps Go.WideShapes
set_option linter.unusedVariables false
set_option linter.unusedSimpArgs false
theorem owns_cap {w : World} {B e s n g cap : Nat} {xs : List Value} (h : w.ownsRow B e s (.slice (some ⟨g, 0, none⟩) n cap) n xs) : n ≤ cap := by
  rcases h.2 with ⟨h0, _⟩ | ⟨g', cap', cur, hv, _, hg, hn, _⟩
  · cases h0
  · cases hv
    exact hn
theorem blk_of {w : World} {B e s n g cap : Nat} {xs : List Value} (h : w.ownsRow B e s (.slice (some ⟨g, 0, none⟩) n cap) n xs) (k : Nat) : w.frozen? ⟨g, k, none⟩ = false := by
  rcases h.2 with ⟨h0, _⟩ | ⟨g', cap', cur, hv, hB, hg, hn, hc, hsz, ht⟩
  · cases h0
  · cases hv
    simp [World.frozen?, hg]
theorem some_n {w : World} {B e s n g cap k : Nat} {xs : List Value} (h : w.ownsRow B e s (.slice (some ⟨g, 0, none⟩) n cap) n xs) (hk : k < n * s) : ∃ x, w.cell? ⟨g, k, none⟩ = some x := by
  have hl : k < xs.length := by have := h.1; omega
  exact ⟨xs[k], cell_n h (List.getElem?_eq_getElem hl)⟩
theorem ops_row {w : World} {base g n cap : Nat} {os : List OpT} {rest : List Value} (h : w.ownsRow base 63 5 (.slice (some ⟨g, 0, none⟩) n cap) n (opCs os ++ rest)) : OpsAt w w.heap.size (some ⟨g, 0, none⟩) os := fun i o hi => by
  refine ⟨g, 0, rfl, (h.lt g rfl).2, fun j x hx => ?_⟩
  rw [Nat.zero_add]
  exact cell_n h (opCs_at os i j o x hi hx _)
/-- What the document's Play has answered, and the step's own boxes. -/
structure Bag (w wk : World) (v : Value) (cs : Array Value) (vb : Nat) (va : Value) (rb : Nat) (rcs : Array Value) (na : Option Addr) (T : List Nd) (B : Nat) (rv : Value) (L : List RsT) (cv : Value) (C : List ChT) : Prop where
  tr : wk.heap[w.heap.size]? = some (.cells #[v] 27 (0, 0))
  sp : wk.heap[w.heap.size + 1]? = some (.cells cs 34 (0, 0))
  rs : wk.heap[w.heap.size + 1 + 1]? = some (.cells #[.slice none 0 0] 27 (0, 0))
  vb : wk.heap[vb]? = some (.cells #[va] 27 (0, 0))
  rb : wk.heap[rb]? = some (.cells rcs 54 (0, 0))
  nds : NdsAt wk na T
  rsd : RsD wk B rv L
  ch : wk.ownsRow B 85 4 cv C.length (chCs C)
theorem Bag.below {w wk wk' : World} {v : Value} {cs : Array Value} {vb : Nat} {va : Value} {rb : Nat} {rcs : Array Value} {na : Option Addr} {T : List Nd} {B : Nat} {rv : Value} {L : List RsT} {cv : Value} {C : List ChT} (h : Bag w wk v cs vb va rb rcs na T B rv L cv C) (hb : Below wk.heap.size wk wk') : Bag w wk' v cs vb va rb rcs na T B rv L cv C :=
  ⟨kept_block hb h.tr, kept_block hb h.sp, kept_block hb h.rs, kept_block hb h.vb, kept_block hb h.rb, h.nds.below hb, h.rsd.below hb, owns_chg h.ch (Chg.of_below hb (fun _ => False)) (fun _ _ => id)⟩
/-- Only blocks of a tree, a desk or ops turn. -/
theorem Bag.chg {w wk wk' : World} {v : Value} {cs : Array Value} {vb : Nat} {va : Value} {rb : Nat} {rcs : Array Value} {na : Option Addr} {T : List Nd} {B : Nat} {rv : Value} {L : List RsT} {cv : Value} {C : List ChT} {S : Nat → Prop} (h : Bag w wk v cs vb va rb rcs na T B rv L cv C) (hc : Chg wk wk' S) (hs : ∀ k, S k → ∃ cur t, (t = 49 ∨ t = 32 ∨ t = 63) ∧ wk.heap[k]? = some (.cells cur t (0, 0))) : Bag w wk' v cs vb va rb rcs na T B rv L cv C := by
  have hno : ∀ {k t' : Nat} {cur' : Array Value}, wk.heap[k]? = some (.cells cur' t' (0, 0)) → t' ≠ 49 → t' ≠ 32 → t' ≠ 63 → ¬ S k := fun {k t' cur'} hk h1 h2 h3 e => by
    obtain ⟨cur, t, ht, hk'⟩ := hs k e
    rw [hk] at hk'
    simp at hk'
    obtain ⟨_, rfl⟩ := hk'
    rcases ht with ht | ht | ht
    · exact h1 ht
    · exact h2 ht
    · exact h3 ht
  refine ⟨kept_chg hc h.tr (hno h.tr (by decide) (by decide) (by decide)), kept_chg hc h.sp (hno h.sp (by decide) (by decide) (by decide)), kept_chg hc h.rs (hno h.rs (by decide) (by decide) (by decide)), kept_chg hc h.vb (hno h.vb (by decide) (by decide) (by decide)), kept_chg hc h.rb (hno h.rb (by decide) (by decide) (by decide)), h.nds.chg hc (fun k e cur hk => hno hk (by decide) (by decide) (by decide) e), h.rsd.chg hc (fun k e cur => ⟨fun hk => hno hk (by decide) (by decide) (by decide) e, fun hk => hno hk (by decide) (by decide) (by decide) e⟩), owns_chg h.ch hc (fun k hk e => ?_)⟩
  obtain ⟨cur, h9⟩ := owns_kind h.ch hk
  exact hno h9 (by decide) (by decide) (by decide) e
/-- What the program's Play has answered. -/
structure Ans (wk : World) (B xb : Nat) (xcs : Array Value) (rv : Value) (L : List RsT) (cv : Value) (C : List ChT) : Prop where
  xb : wk.heap[xb]? = some (.cells xcs 54 (0, 0))
  rs : RsAt wk B rv L.length L
  ch : wk.ownsRow B 85 4 cv C.length (chCs C)
theorem Ans.below {wk wk' : World} {B xb : Nat} {xcs : Array Value} {rv : Value} {L : List RsT} {cv : Value} {C : List ChT} (h : Ans wk B xb xcs rv L cv C) (hb : Below wk.heap.size wk wk') : Ans wk' B xb xcs rv L cv C :=
  ⟨kept_block hb h.xb, h.rs.below hb, owns_chg h.ch (Chg.of_below hb (fun _ => False)) (fun _ _ => id)⟩
theorem Ans.row {wk wk' : World} {B xb g : Nat} {xcs : Array Value} {rv : Value} {L : List RsT} {cv : Value} {C : List ChT} (h : Ans wk B xb xcs rv L cv C) (hc : Chg wk wk' (fun k => k = g)) (hk : ∃ cur, wk.heap[g]? = some (.cells cur 63 (0, 0))) : Ans wk' B xb xcs rv L cv C := by
  obtain ⟨cur, hk⟩ := hk
  have hno : ∀ {k t' : Nat} {cur' : Array Value}, wk.heap[k]? = some (.cells cur' t' (0, 0)) → t' ≠ 63 → ¬ k = g := fun {k t' cur'} hk' h1 e => by
    rw [e, hk] at hk'
    simp at hk'
    exact h1 hk'.2.symm
  have hr : ∀ {B' t sz m : Nat} {v : Value} {xs : List Value}, wk.ownsRow B' t sz v m xs → t ≠ 63 → wk'.ownsRow B' t sz v m xs := fun hr h1 => owns_chg hr hc (fun k hk' e => by
    obtain ⟨cur', h9⟩ := owns_kind hr hk'
    exact hno h9 h1 e)
  exact ⟨kept_chg hc h.xb (hno h.xb (by decide)), ⟨hr h.rs.row (by decide), h.rs.le, fun x hx => hr (h.rs.kids x hx) (by decide)⟩, hr h.ch (by decide)⟩
end Go.Proofs.YthelfbdkbldhjaaGreatDoor
