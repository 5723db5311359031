import Derived.Test.YtliafokjdngejabGreatDoorTSit
import Derived.Test.YtliafokjdngejabGreatDoorTSound
import Derived.Test.YtliafokjdngejabGreatDoorTReadA
namespace Go.Proofs.YtliafokjdngejabGreatDoor
open Go.RowKit Go.Maps Go.WideShapes
set_option linter.unusedVariables false
set_option linter.unusedSimpArgs false

def NdR (x : Nd) : Prop := (0 ≤ x.m ∧ x.m ≤ 2147483647) ∧ (0 ≤ x.c ∧ x.c ≤ 2147483647) ∧ (0 ≤ x.o ∧ x.o ≤ 2147483647) ∧ (x.o ≠ 0 → x.k = 0)
def Rng (T : List Nd) : Prop := ∀ x ∈ T, NdR x
theorem rng_upd {T : List Nd} (h : Rng T) {y : Nd} (hy : NdR y) : Rng (upd T y) := fun x hx => by
  obtain ⟨z, hz, rfl⟩ := List.mem_map.1 hx
  by_cases e : z.p = y.p
  · rw [if_pos e]; exact hy
  · rw [if_neg e]; exact h z hz
theorem rng_one {T : List Nd} (h : Rng T) {s st : Int} (hs : 0 ≤ s ∧ s ≤ 2147483647) (ht : 1 ≤ st ∧ st ≤ 2147483647) (o : OpT) : Rng (oneM T s st o).2.1 := by
  unfold oneM
  split
  · exact h
  split
  · unfold makeM
    split
    · exact h
    rename_i u hfu
    have hu := h u (fnd_some hfu).1
    split
    · exact h
    rename_i huo
    have huo : u.o = 0 := by simpa using huo
    split
    · exact h
    split
    · exact h
    split
    · exact h
    intro x hx
    rcases List.mem_cons.1 ((ins_perm _ _).mem_iff.1 hx) with rfl | hx
    · refine ⟨⟨by show 0 ≤ st; omega, ht.2⟩, ⟨by show 0 ≤ st; omega, ht.2⟩, ?_, fun _ => rfl⟩
      show 0 ≤ (if o.f % 2 = 1 then s else 0) ∧ (if o.f % 2 = 1 then s else 0) ≤ 2147483647
      split
      · exact hs
      · omega
    · exact rng_upd h (y := { u with k := if 2 ≤ o.f then u.k + 1 else u.k }) ⟨hu.1, hu.2.1, hu.2.2.1, fun e => absurd huo e⟩ x hx
  · split
    · exact h
    rename_i x hf
    have hx := h x (fnd_some hf).1
    split
    · exact h
    unfold restM
    split
    · exact rng_upd h (y := { x with d := o.d, v := x.v + 1, c := st }) ⟨hx.1, ⟨by show 0 ≤ st; omega, ht.2⟩, hx.2.2.1, hx.2.2.2⟩
    split
    · exact fun y hy => h y (List.mem_filter.1 hy).1
    · exact h
theorem rng_playL {T0 : List Nd} (h0 : Rng T0) {s st : Int} (hs : 0 ≤ s ∧ s ≤ 2147483647) (ht : 1 ≤ st ∧ st ≤ 2147483647) : ∀ (os : List OpT) (i : Nat) (T : List Nd) (R : List ResT) (C : List ChT), Rng T → Rng (playL T0 s st os i T R C).T
  | [], _, _, _, _, h => h
  | o :: r, i, T, R, C, h => by
    unfold playL
    split
    · exact h0
    · exact rng_playL h0 hs ht r _ _ _ _ (rng_one h hs ht o)
theorem rng_play {T : List Nd} (h : Rng T) (s st : Int) (os : List OpT) : Rng (playM T s st os).T := by
  unfold playM
  split
  · exact h
  · rename_i hm
    have hm : mayC s st os.length = 0 := by simpa using hm
    unfold mayC at hm
    split at hm
    · cases hm
    split at hm
    · cases hm
    rename_i hb
    exact rng_playL h (by omega) (by omega) os 0 T [] [] h
theorem rng_fin {T : List Nd} (h : Rng T) (s : Int) : Rng (finT T s) := by
  unfold finT
  split
  · exact h
  · exact fun x hx => h x (List.mem_filter.1 hx).1
theorem rng_run {T : List Nd} (h : Rng T) (x : StT) : Rng (runS T x) := by
  unfold runS
  split
  · exact rng_play h _ _ _
  split
  · exact rng_fin h _
  · exact h
theorem rng_new : Rng [rootN] := fun x hx => by
  obtain rfl := List.mem_singleton.1 hx
  exact ⟨⟨by decide, by decide⟩, ⟨by decide, by decide⟩, ⟨by decide, by decide⟩, fun e => absurd rfl e⟩
end Go.Proofs.YtliafokjdngejabGreatDoor
namespace Go.Proofs.YtliafokjdngejabGreatDoor
open Go.RowKit Go.Maps Go.WideShapes
set_option linter.unusedVariables false
set_option linter.unusedSimpArgs false
attribute [local go_sem ↓] Go.wp_at_zero Go.wp_at_succ

theorem NdR.nums {x : Nd} (h : NdR x) (hv : 0 ≤ x.v ∧ x.v ≤ 2147483647) : ∀ (q : Nat) (y : Int), [x.v, x.m, x.c, x.o][q]? = some y → 0 ≤ y ∧ y ≤ 2147483647 := fun q y hy => by
  match q, hy with
  | 0, hy => obtain rfl : x.v = y := by simpa using hy
             exact hv
  | 1, hy => obtain rfl : x.m = y := by simpa using hy
             exact h.1
  | 2, hy => obtain rfl : x.c = y := by simpa using hy
             exact h.2.1
  | 3, hy => obtain rfl : x.o = y := by simpa using hy
             exact h.2.2.1
  | q + 4, hy => simp at hy
set_option maxHeartbeats 8000000 in
set_option maxRecDepth 100000 in
theorem mayHave_any (b n : Nat) (D : DataW Value) (x up : Nd) (th : Bool) (w : World) (hg : GroundT w) (hm : MapAt w b n D) (hx : NdR x) (hv : 0 ≤ x.v ∧ x.v ≤ 2147483647) (hd : x.d.size ≤ 64) (hk : 0 ≤ x.k ∧ x.k ≤ 100000) (hp : (parse x.p).1 = 0) (hl : look D (parB x.p) = up.V) (hh : Maps.has D (ky (parB x.p)) = th) (hr : (x.p = pRt ∧ x.o = 0) ∨ (x.p ≠ pRt ∧ th = true ∧ up.o = 0)) :
    Calls Tryz.prog 35 #[.map (some b), x.V] w fun e w' => e = .returned (.bool true) ∧ Below w.heap.size w w' := by
  have HPM : Hid (∀ W, Below w.heap.size w W → _) := fun W hb => parent_map b n D x.p up.p up.d up.v up.m up.c up.o up.k th W (hg.below hb) (map_below hm hb) (by have := par_size hp; unfold maxLen; omega) hl hh
  have HIB : Hid (∀ (y : Nd) W, _) := fun y W => fIsBrief_any y.p y.d y.v y.m y.c y.o y.k W
  have HX : Hid _ := hx
  have HV : Hid _ := hv
  have hd' : ¬ (64 : Int) < (x.d.size : Int) := by omega
  have hk0 : ¬ x.k < 0 := by omega
  have hk1 : ¬ (100000 : Int) < x.k := by omega
  clear hg hm hx hv hd hk hp hl hh
  go_enter Tryz.func35, Tryz.ntmps35
  go_upto_region 1 with fail
  obtain ⟨w1, hw1⟩ : ∃ y, w.alloc (.cells #[.string x.p, .string x.d, .int .i64 x.v, .int .i64 x.m, .int .i64 x.c, .int .i64 x.o, .int .i64 x.k] 32) = y := ⟨_, rfl⟩
  obtain ⟨nb, hnb⟩ : ∃ y, w.heap.size = y := ⟨_, rfl⟩
  have HB1 : Hid (Below w.heap.size w w1) := by rw [← hw1]; exact (Below.refl _ _).alloc (Nat.le_refl _) _
  have HN1 : Hid (w1.heap[nb]? = some (.cells #[.string x.p, .string x.d, .int .i64 x.v, .int .i64 x.m, .int .i64 x.c, .int .i64 x.o, .int .i64 x.k] 32 (0, 0))) := by rw [← hw1, ← hnb]; exact heap_alloc_new _ _
  rw [hw1, hnb]
  clear hw1 hnb
  obtain ⟨n0, n1, n2, n3, n4, n5, n6⟩ := cells_7 HN1.out
  go_wp2_with fail
  go_loopw [32] (fun i wr => ∃ q : Nat, i = .int .i64 q ∧ q ≤ 4 ∧ wr = w1) (fun i _ => 4 - (intOf i).toNat)
  case atStart => exact ⟨0, rfl, Nat.zero_le _, rfl⟩
  case round =>
    obtain ⟨q, rfl, hq, hwr⟩ := hrel
    have hwr' := hwr.symm
    subst hwr'
    by_cases hlt : q < 4
    · have hnum := NdR.nums HX.out HV.out
      rcases (show q = 0 ∨ q = 1 ∨ q = 2 ∨ q = 3 by omega) with rfl | rfl | rfl | rfl
      · have r1 := (hnum 0 _ rfl).1
        have ix : ∀ W, (Instr.index 106 (.agg #[.int .i64 x.v, .int .i64 x.m, .int .i64 x.c, .int .i64 x.o]) (.int .i64 0)).run Tryz.prog W = .ok (.int .i64 x.v) W := fun _ => by kernel_rfl
        have r2 := (hnum 0 _ rfl).2
        have r3 : ¬ x.v < 0 := by omega
        have r4 : ¬ (2147483647 : Int) < x.v := by omega
        clear hnum
        go_wp2_with fail
        go_roundw
        case rel => exact ⟨1, rfl, by omega, by trivial⟩
        case measure => simp [intOf]
      · have r1 := (hnum 1 _ rfl).1
        have ix : ∀ W, (Instr.index 106 (.agg #[.int .i64 x.v, .int .i64 x.m, .int .i64 x.c, .int .i64 x.o]) (.int .i64 1)).run Tryz.prog W = .ok (.int .i64 x.m) W := fun _ => by kernel_rfl
        have r2 := (hnum 1 _ rfl).2
        have r3 : ¬ x.m < 0 := by omega
        have r4 : ¬ (2147483647 : Int) < x.m := by omega
        clear hnum
        go_wp2_with fail
        go_roundw
        case rel => exact ⟨2, rfl, by omega, by trivial⟩
        case measure => simp [intOf]
      · have r1 := (hnum 2 _ rfl).1
        have ix : ∀ W, (Instr.index 106 (.agg #[.int .i64 x.v, .int .i64 x.m, .int .i64 x.c, .int .i64 x.o]) (.int .i64 2)).run Tryz.prog W = .ok (.int .i64 x.c) W := fun _ => by kernel_rfl
        have r2 := (hnum 2 _ rfl).2
        have r3 : ¬ x.c < 0 := by omega
        have r4 : ¬ (2147483647 : Int) < x.c := by omega
        clear hnum
        go_wp2_with fail
        go_roundw
        case rel => exact ⟨3, rfl, by omega, by trivial⟩
        case measure => simp [intOf]
      · have r1 := (hnum 3 _ rfl).1
        have ix : ∀ W, (Instr.index 106 (.agg #[.int .i64 x.v, .int .i64 x.m, .int .i64 x.c, .int .i64 x.o]) (.int .i64 3)).run Tryz.prog W = .ok (.int .i64 x.o) W := fun _ => by kernel_rfl
        have r2 := (hnum 3 _ rfl).2
        have r3 : ¬ x.o < 0 := by omega
        have r4 : ¬ (2147483647 : Int) < x.o := by omega
        clear hnum
        go_wp2_with fail
        go_roundw
        case rel => exact ⟨4, rfl, by omega, by trivial⟩
        case measure => simp [intOf]
    · obtain rfl : q = 4 := by omega
      go_wp2_with fail
      refine Calls.mono (HIB.out x w1) ?_
      rintro e w2 ⟨rfl, hb2⟩
      have HB2 : Hid (Below w.heap.size w w2) := trans2 HB1.out hb2
      have HN2 : Hid _ := kept_block hb2 HN1.out
      clear hb2 n0 n1 n2 n3 n4 n5 n6
      obtain ⟨n0, n1, n2, n3, n4, n5, n6⟩ := cells_7 HN2.out
      rcases hr with ⟨h1, h2⟩ | ⟨h1, h2, h3⟩
      · have e2 : decide (x.o ≠ 0) = false := by simp [h2]
        have HP2 : Hid (x.p = pRt) := h1
        rw [e2]
        rw [h1] at n0
        clear h1 h2 e2
        go_wp2_with fail
        refine Calls.mono (by have h9 := HPM.out w2 HB2.out; rw [HP2.out] at h9; exact h9) ?_
        rintro e w3 ⟨rfl, hb3⟩
        have HB3 : Hid (Below w.heap.size w w3) := trans2 HB2.out hb3
        have HN3 : Hid _ := kept_block hb3 HN2.out
        have hnl : nb < w3.heap.size := (Array.getElem?_eq_some_iff.1 HN3.out).1
        clear hb3 n0 n1 n2 n3 n4 n5 n6
        obtain ⟨n0, n1, n2, n3, n4, n5, n6⟩ := cells_7 HN3.out
        rw [HP2.out] at n0
        go_wp2_with fail
        go_ret
        exact ⟨rfl, HB3.out.alloc HB3.out.size _⟩
      · have hc : (x.p.toList == pRt.toList) = false := beq_ne h1
        have hc2 : (x.p.toList == [47]) = false := by
          cases h9 : (x.p.toList == [47]) with
          | false => rfl
          | true =>
            exfalso
            have h8 : x.p.toList = [47] := by simpa using h9
            rw [ByteArray.toList_eq] at h8
            exact h1 (ByteArray.ext (Array.ext' h8))
        subst h2
        have HU0 : Hid (up.o = 0) := h3
        have hob : (decide (x.o ≠ 0) = false) ∨ (decide (x.o ≠ 0) = true ∧ x.k = 0) := by
          by_cases ho : x.o = 0
          · exact .inl (by simp [ho])
          · exact .inr ⟨by simp [ho], HX.out.2.2.2 ho⟩
        clear h1 h3
        rcases hob with e2 | ⟨e2, e3⟩
        · rw [e2]
          clear e2
          go_wp2_with fail
          refine Calls.mono (HPM.out w2 HB2.out) ?_
          rintro e w3 ⟨rfl, hb3⟩
          have HB3 : Hid (Below w.heap.size w w3) := trans2 HB2.out hb3
          have HN3 : Hid _ := kept_block hb3 HN2.out
          have hnl : nb < w3.heap.size := (Array.getElem?_eq_some_iff.1 HN3.out).1
          clear hb3 n0 n1 n2 n3 n4 n5 n6
          obtain ⟨n0, n1, n2, n3, n4, n5, n6⟩ := cells_7 HN3.out
          go_wp2_with fail
          refine Calls.mono (HIB.out up _) ?_
          rintro e w4 ⟨rfl, hb4⟩
          have HB4 : Hid (Below w.heap.size w w4) := trans2 (HB3.out.alloc HB3.out.size _) hb4
          have e4 : decide (up.o ≠ 0) = false := by simp [HU0.out]
          rw [e4]
          clear hb4 e4
          go_wp2_with fail
          go_ret
          exact ⟨rfl, HB4.out⟩
        · rw [e2]
          rw [e3] at n6
          clear e2
          go_wp2_with fail
          refine Calls.mono (HPM.out w2 HB2.out) ?_
          rintro e w3 ⟨rfl, hb3⟩
          have HB3 : Hid (Below w.heap.size w w3) := trans2 HB2.out hb3
          have HN3 : Hid _ := kept_block hb3 HN2.out
          have hnl : nb < w3.heap.size := (Array.getElem?_eq_some_iff.1 HN3.out).1
          clear hb3 n0 n1 n2 n3 n4 n5 n6
          obtain ⟨n0, n1, n2, n3, n4, n5, n6⟩ := cells_7 HN3.out
          go_wp2_with fail
          refine Calls.mono (HIB.out up _) ?_
          rintro e w4 ⟨rfl, hb4⟩
          have HB4 : Hid (Below w.heap.size w w4) := trans2 (HB3.out.alloc HB3.out.size _) hb4
          have e4 : decide (up.o ≠ 0) = false := by simp [HU0.out]
          rw [e4]
          clear hb4 e4
          go_wp2_with fail
          go_ret
          exact ⟨rfl, HB4.out⟩
end Go.Proofs.YtliafokjdngejabGreatDoor
namespace Go.Proofs.YtliafokjdngejabGreatDoor
open Go.RowKit Go.Maps Go.WideShapes
set_option linter.unusedVariables false
set_option linter.unusedSimpArgs false
attribute [local go_sem ↓] Go.wp_at_zero Go.wp_at_succ

def lastP (T : List Nd) (q : Nat) : ByteArray := (((T.take q).getLast?).map Nd.p).getD ⟨#[]⟩
theorem lastP_next {T : List Nd} {q : Nat} {x : Nd} (hx : T[q]? = some x) : lastP T (q + 1) = x.p := by
  unfold lastP
  rw [List.take_add_one, hx]
  simp
theorem last_less {T : List Nd} (h : Snd T) {q : Nat} {x : Nd} (hx : T[q]? = some x) : O (lastP T q) x.p = -1 ∧ (lastP T q).size ≤ 1000 := by
  cases q with
  | zero =>
    have e : lastP T 0 = ⟨#[]⟩ := by simp [lastP]
    rw [e]
    refine ⟨?_, by decide⟩
    rw [O_list]
    have hne : x.p.data.toList ≠ [] := fun e9 => by
      have hp := (h.inv.nd x (List.mem_of_getElem? hx)).1
      have : x.p = ⟨#[]⟩ := ByteArray.ext (Array.ext' e9)
      rw [this] at hp
      revert hp
      decide +kernel
    match hl : x.p.data.toList with
    | [] => exact absurd hl hne
    | _ :: _ => rfl
  | succ q =>
    have hl := (List.getElem?_eq_some_iff.1 hx).1
    obtain ⟨y, hy⟩ : ∃ y, T[q]? = some y := ⟨T[q], List.getElem?_eq_getElem (by omega)⟩
    rw [lastP_next hy]
    exact ⟨h.order hy hx, Nat.le_trans (size_of_parse (h.inv.nd y (List.mem_of_getElem? hy)).1) (by decide)⟩
theorem rep_nil : Rep (.map []) [] := by
  refine ⟨by simp [Tidy], ⟨[], rfl, fun p hp => ?_⟩, fun s => ?_, fun x hx => ?_, by simp⟩
  · cases hp
  · constructor
    · intro h
      simp [Maps.has] at h
    · rintro ⟨x, hx, _⟩
      cases hx
  · cases hx
theorem rep_next {D : DataW Value} {T : List Nd} (hi : Inv T) {q : Nat} {x : Nd} (hx : T[q]? = some x) (h : Rep D (T.take q)) : Rep (D.put (ky x.p) (.held x.V)) (T.take (q + 1)) := by
  have h1 := h.put x
  have hq := (List.getElem?_eq_some_iff.1 hx).1
  have e1 : (T.take q).filter (fun y => decide (y.p ≠ x.p)) = T.take q := by
    rw [List.filter_eq_self]
    intro y hy
    have hne : y.p ≠ x.p := fun e => by
      obtain ⟨j, hj⟩ := List.mem_iff_getElem?.1 hy
      rw [List.getElem?_take] at hj
      split at hj
      · rename_i hjq
        obtain ⟨h2, e2⟩ := List.getElem?_eq_some_iff.1 hj
        have := List.pairwise_iff_getElem.1 hi.srt j q h2 hq hjq
        rw [e2, (List.getElem?_eq_some_iff.1 hx).2, e, O_self] at this
        cases this
      · cases hj
    simpa using hne
  rw [e1] at h1
  refine h1.perm ?_
  rw [List.take_add_one, hx]
  exact List.perm_append_singleton x _
theorem up_there {T : List Nd} (h : Snd T) {D : DataW Value} {q : Nat} {x : Nd} (hx : T[q]? = some x) (hr : Rep D (T.take q)) : ∃ (up : Nd) (th : Bool), look D (parB x.p) = up.V ∧ Maps.has D (ky (parB x.p)) = th ∧ ((x.p = pRt ∧ x.o = 0) ∨ (x.p ≠ pRt ∧ th = true ∧ up.o = 0)) := by
  cases q with
  | zero =>
    obtain ⟨r, hr0, hrp, hro⟩ := h.first
    rw [hx] at hr0
    obtain rfl := Option.some.inj hr0
    have hf : fnd (T.take 0) (parB x.p) = none := rfl
    exact ⟨zN, false, hr.look_none hf, by rw [hr.has_fnd, hf]; rfl, .inl ⟨hrp, hro⟩⟩
  | succ q =>
    obtain ⟨hxr, k, u, hk, hu, hup, huo⟩ := h.above (by omega) hx
    have hm : u ∈ T.take (q + 1) := List.mem_of_getElem? (i := k) (by rw [List.getElem?_take, if_pos hk]; exact hu)
    exact ⟨u, true, by rw [← hup]; exact hr.look u hm, by rw [hr.has]; exact ⟨u, hm, hup⟩, .inr ⟨hxr, rfl, huo⟩⟩

set_option maxHeartbeats 8000000 in
set_option maxRecDepth 100000 in
theorem load_any (B g cap : Nat) (T : List Nd) (w : World) (hS : Snd T) (hR : Rng T) (hr : w.ownsRow B 32 7 (.slice (some ⟨g, 0, none⟩) T.length cap) T.length (T.flatMap Nd.cs)) (hg : GroundT w) :
    Calls Tryz.prog 15 #[.slice (some ⟨g, 0, none⟩) T.length cap] w fun e w' => ∃ ub, e = .returned (.tuple #[.pointer (some ⟨ub, 0, none⟩), .int .i64 0]) ∧ TrAt w' w.heap.size ub 8 T ∧ Below w.heap.size w w' := by
  have HS : Hid (Snd T) := hS
  have HRG : Hid (Rng T) := hR
  have HG : Hid (GroundT w) := hg
  have hgl : g < w.heap.size := (hr.lt g rfl).2
  have HND : Hid (∀ (wr : World), Below w.heap.size w wr → ∀ q j x v, T[q]? = some x → x.cs[j]? = some v → wr.cell? ⟨g, q * 7 + j, none⟩ = some v) := fun wr hb q j x v hx hv => by rw [hb.cell (p := ⟨g, q * 7 + j, none⟩) hgl]; exact nd_cell hr hx hv
  obtain ⟨N, hN⟩ : ∃ N, T.length = N := ⟨_, rfl⟩
  have HN : Hid (T.length = N) := hN
  have hN64 : N ≤ 64 := by rw [← hN]; exact hS.inv.len
  have hN1 : 1 ≤ N := by rw [← hN]; exact List.length_pos_iff.2 hS.ne
  have hn' : ¬ (64 : Int) < (N : Int) := by omega
  have hmm := @run_makeMap Tryz.prog
  rw [hN]
  clear hr hg hS hR hN
  go_enter Tryz.func15, Tryz.ntmps15
  go_upto_region 4 with fail
  obtain ⟨w0, hw0⟩ : ∃ y, w.alloc (.map #[] 0) = y := ⟨_, rfl⟩
  obtain ⟨mb, hmb⟩ : ∃ y, w.heap.size = y := ⟨_, rfl⟩
  have HB0 : Hid (Below w.heap.size w w0) := by rw [← hw0]; exact (Below.refl _ _).alloc (Nat.le_refl _) _
  have HM0 : Hid (MapAt w0 mb 0 (.map [])) := by rw [← hw0, ← hmb]; exact World.ownsMap_made w Tryz.prog 9 raw
  have HMB : Hid (w.heap.size = mb) := hmb
  rw [hw0, hmb]
  clear hw0 hmb hmm
  go_wp2_with fail
  go_loopw [5, 14] (fun lv i wr => ∃ (q : Nat) (D : DataW Value), i = .int .i64 q ∧ q ≤ N ∧ lv = .string (lastP T q) ∧ Hid (Rep D (T.take q)) ∧ Hid (MapAt wr mb q D) ∧ Hid (Below w.heap.size w wr)) (fun _ i _ => N - (intOf i).toNat)
  case atStart => exact ⟨0, .map [], rfl, Nat.zero_le _, by simp [lastP], rep_nil, HM0.out, HB0.out⟩
  case round =>
    obtain ⟨q, D, rfl, hq, rfl, HRD, HMD, HB⟩ := hrel
    by_cases hlt : q < N
    · have hlt' : (q : Int) < (N : Int) := by omega
      obtain ⟨x, hx⟩ : ∃ x, T[q]? = some x := ⟨T[q]'(by rw [HN.out]; exact hlt), List.getElem?_eq_getElem _⟩
      have hxm := List.mem_of_getElem? hx
      have hxn := HS.out.inv.nd x hxm
      have hxs := size_of_parse hxn.1
      obtain ⟨hO, hls⟩ := last_less HS.out hx
      obtain ⟨up, th, hl1, hl2, hl3⟩ := up_there HS.out hx HRD.out
      obtain ⟨la, hla⟩ : ∃ la, lastP T q = la := ⟨_, rfl⟩
      rw [hla] at hO hls ⊢
      have HOR : Hid (∀ W : World, Calls Tryz.prog 34 #[.string la, .string x.p] W fun e w' => e = .returned (.int .i64 (-1)) ∧ ∃ m, w' = W.drewN m) := fun W => by
        have h9 := order_O la x.p (by unfold maxLen; omega) (by unfold maxLen; omega) W
        rw [hO] at h9
        exact h9
      have HMH : Hid (∀ W, Below wr.heap.size wr W → Calls Tryz.prog 35 #[.map (some mb), x.V] W fun e w' => e = .returned (.bool true) ∧ Below W.heap.size W w') := fun W hb => mayHave_any mb q D x up th W (HG.out.below (trans2 HB.out hb)) (map_below HMD.out hb) (HRG.out x hxm) ⟨hxn.2.2.1, hxn.2.2.2.1⟩ hxn.2.1 ⟨hxn.2.2.2.2.1, hxn.2.2.2.2.2⟩ hxn.1 hl1 hl2 hl3
      have HPT : Hid (∀ W, Below wr.heap.size wr W → _) := fun W hb => put_any mb q D x.p x.d x.v x.m x.c x.o x.k (by omega) (by have := hxn.2.1; omega) W (map_below HMD.out hb) (by omega)
      have HRN : Hid (Rep (D.put (ky x.p) (.held x.V)) (T.take (q + 1))) := rep_next HS.out.inv hx HRD.out
      have HLP : Hid (lastP T (q + 1) = x.p) := lastP_next hx
      have hgr : g < wr.heap.size := Nat.lt_of_lt_of_le hgl HB.out.size
      have n0 : wr.cell? ⟨g, q * 7, none⟩ = some (.string x.p) := HND.out wr HB.out q 0 x _ hx rfl
      have n1 := HND.out wr HB.out q 1 x _ hx rfl
      have n2 := HND.out wr HB.out q 2 x _ hx rfl
      have n3 := HND.out wr HB.out q 3 x _ hx rfl
      have n4 := HND.out wr HB.out q 4 x _ hx rfl
      have n5 := HND.out wr HB.out q 5 x _ hx rfl
      have n6 := HND.out wr HB.out q 6 x _ hx rfl
      clear hx hxm hxn hxs hO hls hl1 hl2 hl3 hla
      go_upto_region 8 with fail
      obtain ⟨w1, hw1⟩ : ∃ y, wr.alloc (.cells #[.string x.p, .string x.d, .int .i64 x.v, .int .i64 x.m, .int .i64 x.c, .int .i64 x.o, .int .i64 x.k] 32) = y := ⟨_, rfl⟩
      obtain ⟨nb, hnb⟩ : ∃ y, wr.heap.size = y := ⟨_, rfl⟩
      have HB1 : Hid (Below wr.heap.size wr w1) := by rw [← hw1]; exact (Below.refl _ _).alloc (Nat.le_refl _) _
      have HN1 : Hid (w1.heap[nb]? = some (.cells #[.string x.p, .string x.d, .int .i64 x.v, .int .i64 x.m, .int .i64 x.c, .int .i64 x.o, .int .i64 x.k] 32 (0, 0))) := by rw [← hw1, ← hnb]; exact heap_alloc_new _ _
      rw [hw1, hnb]
      clear hw1 hnb n0 n1 n2 n3 n4 n5 n6
      obtain ⟨n0, n1, n2, n3, n4, n5, n6⟩ := cells_7 HN1.out
      go_wp2_with fail
      refine Calls.mono (HOR.out w1) ?_
      rintro e w2 ⟨rfl, m2, hw2⟩
      have HB2 : Hid (Below wr.heap.size wr w2) := by rw [hw2]; exact below_dN HB1.out _
      have HN2 : Hid (w2.heap[nb]? = some (.cells #[.string x.p, .string x.d, .int .i64 x.v, .int .i64 x.m, .int .i64 x.c, .int .i64 x.o, .int .i64 x.k] 32 (0, 0))) := by rw [hw2]; exact HN1.out
      clear hw2 n0 n1 n2 n3 n4 n5 n6
      obtain ⟨n0, n1, n2, n3, n4, n5, n6⟩ := cells_7 HN2.out
      go_wp2_with fail
      refine Calls.mono (HMH.out w2 HB2.out) ?_
      rintro e w3 ⟨rfl, hb3⟩
      have HB3 : Hid (Below wr.heap.size wr w3) := trans2 HB2.out hb3
      have HN3 : Hid _ := kept_block hb3 HN2.out
      clear hb3 n0 n1 n2 n3 n4 n5 n6
      obtain ⟨n0, n1, n2, n3, n4, n5, n6⟩ := cells_7 HN3.out
      go_wp2_with fail
      refine Calls.mono (HPT.out w3 HB3.out) ?_
      rintro e w4 ⟨rfl, hm4, hc4⟩
      have HM4 : Hid (MapAt w4 mb (q + 1) (D.put (ky x.p) (.held x.V))) := hm4
      have HN4 : Hid (w4.heap[nb]? = some (.cells #[.string x.p, .string x.d, .int .i64 x.v, .int .i64 x.m, .int .i64 x.c, .int .i64 x.o, .int .i64 x.k] 32 (0, 0))) := by
        show _ = _
        rw [hc4.block nb (Array.getElem?_eq_some_iff.1 HN3.out).1 (fun e => ?_)]
        · exact HN3.out
        · obtain ⟨es, clock, hb, _⟩ := map_below HMD.out HB3.out
          have h9 := HN3.out
          rw [show nb = mb from e, hb] at h9
          cases h9
      have HB4 : Hid (Below w.heap.size w w4) := (trans2 HB.out HB3.out).trans (hc4.below (trans2 HB.out HB3.out).size (fun j _ e => by rw [show j = mb from e, HMB.out]; exact Nat.le_refl _))
      clear hm4 hc4 n0 n1 n2 n3 n4 n5 n6
      obtain ⟨n0, n1, n2, n3, n4, n5, n6⟩ := cells_7 HN4.out
      go_wp2_with fail
      go_roundw
      case rel => exact ⟨q + 1, _, by go_num, by omega, by rw [HLP.out], HRN.out, HM4.out, HB4.out⟩
      case measure => simp [intOf]; omega
    · obtain rfl : q = N := by omega
      have HRT : Hid (Rep D T) := by
        have h9 := HRD.out
        rw [List.take_of_length_le (by rw [HN.out]; exact Nat.le_refl _)] at h9
        exact h9
      have HSZ : Hid (Maps.size D = q) := by show _ = _; rw [HRT.out.size]; exact HN.out
      have hz : ¬ (q : Int) = 0 := by omega
      have hz2 : ((q : Int) == 0) = false := by simpa using hz
      go_wp2_with (first
        | (at_len; refine wpList_len_own _ rfl _ 63 rfl 9 32 Tryz.underlying63 raw mb q D rfl HMD.out ?_; rw [HSZ.out])
        | fail)
      go_ret2
      have hmb := HMD.out.lt
      refine ⟨wr.heap.size, rfl, ⟨⟨mb, q, D, ⟨heap_alloc_new _ _, World.ownsMap.alloc HMD.out _, HB.out.size, by rw [HMB.out]; exact Nat.le_refl _⟩, HRT.out, by omega⟩, HS.out⟩, HB.out.alloc HB.out.size _⟩
end Go.Proofs.YtliafokjdngejabGreatDoor
