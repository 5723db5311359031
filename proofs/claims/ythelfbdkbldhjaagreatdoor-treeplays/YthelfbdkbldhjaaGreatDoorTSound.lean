/-
  tree: a tree that came of requests: the root, every parent there and not brief.
-/
import Derived.Test.YthelfbdkbldhjaaGreatDoorTRefE
import Derived.Test.YthelfbdkbldhjaaGreatDoorRefNames
import Derived.Deep.RegionHeld3
import Derived.Test.YthelfbdkbldhjaaGreatDoorTOne
import Derived.BigQuiet
namespace Go.Proofs.YthelfbdkbldhjaaGreatDoor
open Go.RowKit Go.Maps Go.WideShapes
set_option linter.unusedVariables false
set_option linter.unusedSimpArgs false

abbrev pRt : ByteArray := ⟨#[47]⟩
structure Snd (T : List Nd) : Prop where
  inv : Inv T
  root : ∃ r ∈ T, r.p = pRt ∧ r.o = 0
  up : ∀ x ∈ T, x.p ≠ pRt → ∃ u ∈ T, u.p = parB x.p ∧ u.o = 0
theorem Snd.ne {T : List Nd} (h : Snd T) : T ≠ [] := fun e => by
  obtain ⟨r, hr, _⟩ := h.root
  rw [e] at hr
  cases hr
theorem par_of {s : ByteArray} {xs : List ByteArray} {c : Int} {x : ByteArray} {k : Nat} (h : parse s = (c, xs)) (hk : xs.length = k + 1) : parB s = placeB (xs.take k) := by
  unfold parB
  rw [h]
  cases xs with
  | nil => simp at hk
  | cons y r =>
    have : r.length = k := by simpa using hk
    simp [this]
theorem par_counted {p : ByteArray} {f k : Int} (hp : (parse p).1 = 0) (hr : p ≠ pRt) (hl : 2 ≤ f → (lastN p).size ≤ 11) : parB (atOf p f k) = parB p := by
  unfold atOf
  split
  · rename_i h2
    obtain ⟨xs, j, x, hx, hxl, hxk, hlx⟩ := names_of hp hr
    have h1 := counted_parse hx j hxl x hxk (by rw [← hlx]; exact hl h2) k.toNat
    have hlen : (xs.take j ++ [mk (x.data.toList ++ five k.toNat)]).length = j + 1 := by simp; omega
    rw [par_of (x := x) h1 hlen, par_of (x := x) hx hxl]
    congr 1
    rw [List.take_append_of_le_length (by simp; omega), List.take_take, Nat.min_self]
  · rfl
/-- Who lies directly below is a child. -/
theorem kid_of_par {x u : ByteArray} (hx : (parse x).1 = 0) (hu : (parse u).1 = 0) (hr : x ≠ pRt) (hp : parB x = u) : covers 2 u 1 x = true := by
  obtain ⟨xs, j, y, hxs, hxl, hxk, hlx⟩ := names_of hx hr
  have h1 := par_of (x := y) hxs hxl
  have hne : xs.isEmpty = false := by cases xs with | nil => simp at hxl | cons _ _ => rfl
  have hc : childB u x = true := by
    unfold childB
    rw [hxs]
    simp only [hne, hxl, Nat.add_sub_cancel]
    rw [← h1, hp]
    simp
  unfold covers isP okC cov
  rw [hc]
  simp [hx, hu]
theorem upd_mem {T : List Nd} {y z : Nd} (h : z ∈ upd T y) : (z ∈ T ∧ z.p ≠ y.p) ∨ z = y := by
  obtain ⟨x, hx, rfl⟩ := List.mem_map.1 h
  by_cases e : x.p = y.p
  · rw [if_pos e]; exact .inr rfl
  · rw [if_neg e]; exact .inl ⟨hx, e⟩
theorem mem_upd {T : List Nd} {y u : Nd} (hu : u ∈ T) (hp : u.p = y.p) : y ∈ upd T y := List.mem_map.2 ⟨u, hu, by rw [if_pos hp]⟩
theorem mem_upd_ne {T : List Nd} {y u : Nd} (hu : u ∈ T) (hp : u.p ≠ y.p) : u ∈ upd T y := List.mem_map.2 ⟨u, hu, by rw [if_neg hp]⟩
/-- Places and owners stay. -/
theorem Snd.upd {T : List Nd} (h : Snd T) {y u : Nd} (hu : u ∈ T) (hp : u.p = y.p) (ho : u.o = y.o) (hi : Inv (upd T y)) : Snd (upd T y) := by
  have nd : ∀ z ∈ T, z.p = y.p → z = u := fun z hz e => by
    have hs := h.inv.srt
    have hnd : ∀ a ∈ T, ∀ b ∈ T, a.p = b.p → a = b := by
      intro a ha b hb e
      obtain ⟨i, hi, rfl⟩ := List.mem_iff_getElem.1 ha
      obtain ⟨j, hj, rfl⟩ := List.mem_iff_getElem.1 hb
      rcases Nat.lt_trichotomy i j with hij | hij | hij
      · have := List.pairwise_iff_getElem.1 hs i j hi hj hij
        rw [e, O_self] at this
        cases this
      · subst hij; rfl
      · have := List.pairwise_iff_getElem.1 hs j i hj hi hij
        rw [e, O_self] at this
        cases this
    exact hnd z hz u hu (e.trans hp.symm)
  have keep : ∀ q, (∃ z ∈ T, z.p = q ∧ z.o = 0) → ∃ z ∈ Go.Proofs.YthelfbdkbldhjaaGreatDoor.upd T y, z.p = q ∧ z.o = 0 := by
    rintro q ⟨z, hz, e, e0⟩
    by_cases hz2 : z.p = y.p
    · obtain rfl := nd z hz hz2
      exact ⟨y, mem_upd hz hp, hp ▸ e, ho ▸ e0⟩
    · exact ⟨z, mem_upd_ne hz hz2, e, e0⟩
  refine ⟨hi, keep _ h.root, fun x hx hr => ?_⟩
  rcases upd_mem hx with ⟨hx, _⟩ | rfl
  · exact keep _ (h.up x hx hr)
  · rw [← hp] at hr ⊢
    exact keep _ (h.up u hu hr)
theorem Snd.one {T : List Nd} (h : Snd T) (s st : Int) (o : OpT) : Snd (oneM T s st o).2.1 := by
  have hinv := oneM_inv h.inv s st o
  revert hinv
  unfold oneM
  split
  · exact fun _ => h
  rename_i hc
  have hc : malC s o.k o.p o.d o.f = 0 := by simpa using hc
  obtain ⟨hk1, hk7, hp0, hd2, _⟩ := mal_ok hc
  split
  · rename_i h1
    unfold makeM
    split
    · exact fun _ => h
    rename_i u hfu
    have hu := fnd_some hfu
    have hun := h.inv.nd u hu.1
    split
    · exact fun _ => h
    rename_i huo
    have huo : u.o = 0 := by simpa using huo
    split
    · exact fun _ => h
    rename_i hfull
    split
    · exact fun _ => h
    rename_i hfa
    split
    · exact fun _ => h
    rename_i hlen
    rw [h1] at hc
    obtain ⟨hf, _, hlast, hroot, hd⟩ := mal_ok1 hc
    intro hinv
    have hui : Inv (Go.Proofs.YthelfbdkbldhjaaGreatDoor.upd T { u with k := if 2 ≤ o.f then u.k + 1 else u.k }) := h.inv.upd ⟨hun.1, hun.2.1, hun.2.2.1, hun.2.2.2.1, by show 0 ≤ (if 2 ≤ o.f then u.k + 1 else u.k); split <;> omega, by show (if 2 ≤ o.f then u.k + 1 else u.k) ≤ 100000; split <;> omega⟩
    have hs := h.upd (y := { u with k := if 2 ≤ o.f then u.k + 1 else u.k }) hu.1 rfl rfl hui
    have keep : ∀ q, (∃ z ∈ Go.Proofs.YthelfbdkbldhjaaGreatDoor.upd T { u with k := if 2 ≤ o.f then u.k + 1 else u.k }, z.p = q ∧ z.o = 0) → ∃ z ∈ ins ⟨atOf o.p o.f u.k, o.d, 0, st, st, if o.f % 2 = 1 then s else 0, 0⟩ (Go.Proofs.YthelfbdkbldhjaaGreatDoor.upd T { u with k := if 2 ≤ o.f then u.k + 1 else u.k }), z.p = q ∧ z.o = 0 := by
      rintro q ⟨z, hz, e⟩
      exact ⟨z, (ins_perm _ _).mem_iff.2 (List.mem_cons_of_mem _ hz), e⟩
    refine ⟨hinv, keep _ hs.root, fun x hx hr => ?_⟩
    rcases List.mem_cons.1 ((ins_perm _ _).mem_iff.1 hx) with rfl | hx
    · have e1 : parB (atOf o.p o.f u.k) = parB o.p := par_counted hp0 hroot hlast
      have h9 := keep (parB o.p) ⟨_, mem_upd (y := { u with k := if 2 ≤ o.f then u.k + 1 else u.k }) hu.1 rfl, hu.2, huo⟩
      rw [← e1] at h9
      exact h9
    · exact keep _ (hs.up x hx hr)
  · rename_i h1
    split
    · exact fun _ => h
    rename_i x hf
    have hx := fnd_some hf
    split
    · exact fun _ => h
    rename_i hm
    have hm : misC o.k o.v x.v (kidsM T x.p) = 0 := by simpa using hm
    unfold restM
    split
    · exact fun hinv => h.upd (y := { x with d := o.d, v := x.v + 1, c := st }) hx.1 rfl rfl hinv
    split
    · rename_i h2 h3
      intro hinv
      have hkid : kidsM T x.p = [] := by
        rw [h3] at hm
        unfold misC at hm
        by_cases hk : kidsM T x.p = []
        · exact hk
        · exfalso
          split at hm
          · cases hm
          · rw [if_pos ⟨rfl, hk⟩] at hm
            cases hm
      have hroot : x.p ≠ pRt := fun e => by
        have e2 : o.p = pRt := hx.2 ▸ e
        rw [h3, e2] at hc
        unfold malC at hc
        rw [if_neg (by omega), if_neg (by omega)] at hc
        split at hc
        · cases hc
        · rw [if_pos ⟨.inr rfl, rfl⟩] at hc
          cases hc
      have hxp := (h.inv.nd x hx.1).1
      have keep : ∀ q, q ≠ x.p → (∃ z ∈ T, z.p = q ∧ z.o = 0) → ∃ z ∈ T.filter (fun y => decide (y.p ≠ x.p)), z.p = q ∧ z.o = 0 := by
        rintro q hq ⟨z, hz, e, e0⟩
        exact ⟨z, List.mem_filter.2 ⟨hz, by simpa [e] using hq⟩, e, e0⟩
      refine ⟨hinv, keep _ (fun e => hroot e.symm) h.root, fun y hy hr => ?_⟩
      obtain ⟨hy, hyx⟩ := List.mem_filter.1 hy
      refine keep _ (fun e => ?_) (h.up y hy hr)
      have hc2 := kid_of_par (h.inv.nd y hy).1 hxp hr e
      have hmem : y ∈ T.filter (kidP x.p) := by
        refine List.mem_filter.2 ⟨hy, ?_⟩
        unfold kidP wF
        rw [show (⟨(Nd.by y).toArray⟩ : ByteArray) = y.p from rfl, hc2]
        simpa using hyx
      have : kidsM T x.p ≠ [] := fun e9 => by
        unfold kidsM at e9
        rw [List.map_eq_nil_iff] at e9
        rw [e9] at hmem
        cases hmem
      exact this hkid
    · exact fun _ => h
theorem Snd.playL {T0 : List Nd} (h0 : Snd T0) (s st : Int) : ∀ (os : List OpT) (i : Nat) (T : List Nd) (R : List ResT) (C : List ChT), Snd T → Snd (playL T0 s st os i T R C).T
  | [], _, _, _, _, h => h
  | o :: r, i, T, R, C, h => by
    unfold Go.Proofs.YthelfbdkbldhjaaGreatDoor.playL
    split
    · exact h0
    · exact Snd.playL h0 s st r _ _ _ _ (h.one s st o)
theorem Snd.play {T : List Nd} (h : Snd T) (s st : Int) (os : List OpT) : Snd (playM T s st os).T := by
  unfold playM
  split
  · exact h
  · exact h.playL s st os 0 T [] [] h
theorem Snd.fin {T : List Nd} (h : Snd T) {s : Int} (hs : 1 ≤ s) : Snd (endT T s) := by
  have keep : ∀ q, (∃ z ∈ T, z.p = q ∧ z.o = 0) → ∃ z ∈ endT T s, z.p = q ∧ z.o = 0 := by
    rintro q ⟨z, hz, e, e0⟩
    exact ⟨z, List.mem_filter.2 ⟨hz, by simp; omega⟩, e, e0⟩
  exact ⟨endT_inv h.inv s, keep _ h.root, fun x hx hr => keep _ (h.up x (List.mem_filter.1 hx).1 hr)⟩
/-- The new tree. -/
abbrev rootN : Nd := ⟨pRt, ⟨#[]⟩, 0, 0, 0, 0, 0⟩
theorem Snd.new : Snd [rootN] := by
  refine ⟨⟨List.pairwise_singleton _ _, by decide, fun x hx => ?_⟩, ⟨rootN, List.mem_singleton.2 rfl, rfl, rfl⟩, fun x hx hr => ?_⟩
  · obtain rfl := List.mem_singleton.1 hx
    exact ⟨by kernel_rfl, by decide, by decide, by decide, by decide, by decide⟩
  · obtain rfl := List.mem_singleton.1 hx
    exact absurd rfl hr
end Go.Proofs.YthelfbdkbldhjaaGreatDoor
namespace Go.Proofs.YthelfbdkbldhjaaGreatDoor
open Go.RowKit Go.Maps Go.WideShapes
set_option linter.unusedVariables false
set_option linter.unusedSimpArgs false
attribute [local go_sem ↓] Go.wp_at_zero Go.wp_at_succ

theorem below_drew0 (w : World) : Below w.heap.size w w.drew := ⟨rfl, rfl, rfl, Nat.le_refl _, fun _ _ => rfl⟩
theorem chg_undrew {w w' : World} {S : Nat → Prop} (h : Chg w.drew w' S) : Chg w w' S := ⟨h.os, h.tape, h.output, h.size, h.block⟩
/-- At tb lies a tree with these nodes, behind so many requests. -/
structure TrAt (w : World) (B tb q : Nat) (T : List Nd) : Prop where
  at' : ∃ mb n D, TreeAt w B tb mb n D ∧ Rep D T ∧ n ≤ 1 + 8 * q
  snd : Snd T
theorem TrAt.below {w w' : World} {B tb q : Nat} {T : List Nd} (h : TrAt w B tb q T) (hb : Below w.heap.size w w') : TrAt w' B tb q T := by
  obtain ⟨mb, n, D, h1, h2, h3⟩ := h.at'
  exact ⟨⟨mb, n, D, h1.below hb, h2, h3⟩, h.snd⟩
theorem TrAt.lo {w : World} {B tb q : Nat} {T : List Nd} (h : TrAt w B tb q T) : B ≤ tb := by
  obtain ⟨mb, n, D, h1, _⟩ := h.at'
  exact h1.lo
theorem TrAt.lt {w : World} {B tb q : Nat} {T : List Nd} (h : TrAt w B tb q T) : tb < w.heap.size := by
  obtain ⟨mb, n, D, h1, _⟩ := h.at'
  exact (Array.getElem?_eq_some_iff.1 h1.box).1
theorem TrAt.box {w : World} {B tb q : Nat} {T : List Nd} (h : TrAt w B tb q T) : ∃ v, w.heap[tb]? = some (.cells #[v] 49 (0, 0)) := by
  obtain ⟨mb, n, D, h1, _⟩ := h.at'
  exact ⟨_, h1.box⟩
theorem TrAt.mono {w : World} {B tb q q' : Nat} {T : List Nd} (h : TrAt w B tb q T) (hq : q ≤ q') : TrAt w B tb q' T := by
  obtain ⟨mb, n, D, h1, h2, h3⟩ := h.at'
  exact ⟨⟨mb, n, D, h1, h2, by omega⟩, h.snd⟩
theorem chg_lo {w w' : World} {B tb : Nat} (h : Chg w w' (fun k => k = tb)) (hlo : B ≤ tb) (hB : B ≤ w.heap.size) : Below B w w' := h.below hB (fun k _ e => by rw [show k = tb from e]; exact hlo)
/-- What is no tree stays as a tree turns. -/
theorem row_keep {w w' : World} {B tb q : Nat} {T : List Nd} {B' t sz m : Nat} {v : Value} {xs : List Value} (h : TrAt w B tb q T) (hc : Chg w w' (fun k => k = tb)) (hr : w.ownsRow B' t sz v m xs) (ht : t ≠ 49) : w'.ownsRow B' t sz v m xs :=
  owns_chg hr hc (fun k hk e => by
    obtain ⟨v', hb⟩ := h.box
    obtain ⟨cur, hcur⟩ := owns_kind hr hk
    rw [show k = tb from e, hb] at hcur
    simp at hcur
    exact ht hcur.2.symm)
theorem rep_root : Rep rootD [rootN] := by
  have ht : Tidy rootD := by
    have h0 : Tidy (DataW.put (.map [] : DataW Value) (ky pRt) (.held rootN.V)) := Tidy.put (by simp [Tidy]) (ky_lit _) _
    exact h0
  refine ⟨ht, ⟨_, rfl, fun p hp => ?_⟩, fun s => ?_, fun x hx => ?_, by simp⟩
  · obtain rfl := List.mem_singleton.1 hp
    exact ⟨_, rfl⟩
  · constructor
    · intro h
      refine ⟨rootN, List.mem_singleton.2 rfl, ?_⟩
      by_cases e : pRt = s
      · exact e
      · exfalso
        have h1 : Maps.has (DataW.put (.map [] : DataW Value) (ky pRt) (.held rootN.V)) (ky s) = true := h
        rw [has_put_other (fun e' => e (ky_inj e').symm)] at h1
        simp [Maps.has] at h1
    · rintro ⟨x, hx, rfl⟩
      obtain rfl := List.mem_singleton.1 hx
      kernel_rfl
  · obtain rfl := List.mem_singleton.1 hx
    kernel_rfl
theorem new_tr (w : World) : Calls Tryz.prog 9 #[] w fun e w' => ∃ tb, e = .returned (.pointer (some ⟨tb, 0, none⟩)) ∧ TrAt w' w.heap.size tb 0 [rootN] ∧ Below w.heap.size w w' := by
  refine Calls.mono (new_any w) ?_
  rintro e w' ⟨tb, mb, rfl, hT, hb⟩
  exact ⟨tb, rfl, ⟨⟨mb, 1, rootD, hT, rep_root, by omega⟩, Snd.new⟩, hb⟩
theorem play_tr (B tb q : Nat) (T : List Nd) (s st : Int) (a : Option Addr) (c : Nat) (os : List OpT) (w : World) (hg : GroundT w) (hgc : GroundC w) (h : TrAt w B tb q T) (hq : q ≤ 900) (ho : OpsAt w w.heap.size a os) (hok : ∀ o ∈ os, o.Ok) :
    Calls Tryz.prog 19 #[.pointer (some ⟨tb, 0, none⟩), .int .i64 s, .int .i64 st, .slice a os.length c] w fun e w' => ∃ L rv chV, e = .returned (.tuple #[.agg #[.int .i64 st, .int .i64 (playM T s st os).code, .int .i64 (playM T s st os).at', rv], chV]) ∧ L.map RsT.r = (playM T s st os).R ∧ RsAt w' w.heap.size rv L.length L ∧ w'.ownsRow w.heap.size 85 4 chV (playM T s st os).C.length (chCs (playM T s st os).C) ∧ TrAt w' B tb (q + 1) (playM T s st os).T ∧ Chg w w' (fun k => k = tb) := by
  obtain ⟨mb, n, D, h1, h2, h3⟩ := h.at'
  refine Calls.mono (playT_any B tb mb n D T s st a c os w hg hgc h1 h2 h.snd.inv (by omega) ho hok) ?_
  rintro e w' ⟨L, rv, chV, rfl, hE⟩
  obtain ⟨mb', n', D', _, hn', hT', hr'⟩ := hE.tree
  exact ⟨L, rv, chV, rfl, hE.res, hE.row, hE.ch, ⟨⟨mb', n', D', hT', hr', by omega⟩, h.snd.play s st os⟩, hE.chg⟩
def finT (T : List Nd) (s : Int) : List Nd := if s < 1 then T else endT T s
def finC (T : List Nd) (s : Int) : List ChT := if s < 1 then [] else endC T s
theorem Snd.finT {T : List Nd} (h : Snd T) (s : Int) : Snd (finT T s) := by
  unfold Go.Proofs.YthelfbdkbldhjaaGreatDoor.finT
  split
  · exact h
  · exact h.fin (by omega)
set_option maxHeartbeats 3200000 in
theorem end_low {w : World} {tb mb : Nat} (h : w.cell? ⟨tb, 0, none⟩ = some (.map (some mb))) (s : Int) (hs : s < 1) :
    Calls Tryz.prog 24 #[.pointer (some ⟨tb, 0, none⟩), .int .i64 s] w fun e w' => e = .returned (.slice none 0 0) ∧ w' = w := by
  have HN : Hid _ := isNone_at tb (some mb) w h
  clear h
  go_enter Tryz.func24, Tryz.ntmps24
  go_wp2_with (first | (go_at_call 31; refine Calls.mono HN.out ?_; rintro e w1 ⟨rfl, rfl⟩) | fail)
  go_ret
  exact ⟨rfl, rfl⟩
theorem end_tr (B tb q : Nat) (T : List Nd) (s : Int) (w : World) (h : TrAt w B tb q T) (hq : q ≤ 900) :
    Calls Tryz.prog 24 #[.pointer (some ⟨tb, 0, none⟩), .int .i64 s] w fun e w' => ∃ chV, e = .returned chV ∧ w'.ownsRow w.heap.size 85 4 chV (finC T s).length (chCs (finC T s)) ∧ TrAt w' B tb q (finT T s) ∧ Chg w w' (fun k => k = tb) := by
  obtain ⟨mb, n, D, h1, h2, h3⟩ := h.at'
  unfold finT finC
  by_cases hs : s < 1
  · rw [if_pos hs, if_pos hs]
    refine Calls.mono (end_low (cells_1 h1.box) s hs) ?_
    rintro e w' ⟨rfl, rfl⟩
    exact ⟨_, rfl, World.ownsRow_nil _ _ _ _, h, Chg.refl _ _⟩
  · rw [if_neg hs, if_neg hs]
    refine Calls.mono (end_any B tb mb n D T s w h1 h2 h.snd.inv h.snd.ne (by omega) (by omega)) ?_
    rintro e w' ⟨chV, mb', D', rfl, _, hT', hr', hch, hc⟩
    exact ⟨chV, rfl, hch, ⟨⟨mb', n, D', hT', hr', h3⟩, h.snd.fin (by omega)⟩, hc⟩
theorem nodeCs_T {D : DataW Value} {T : List Nd} (h : Rep D T) : ∀ U : List Nd, (∀ x ∈ U, x ∈ T) → nodeCs D (U.map Nd.by) = U.flatMap Nd.cs
  | [], _ => rfl
  | x :: r, hU => by
    have e : (⟨(Nd.by x).toArray⟩ : ByteArray) = x.p := ByteArray.ext (by simp [Nd.by])
    have ih := nodeCs_T h r (fun y hy => hU y (List.mem_cons_of_mem _ hy))
    unfold nodeCs at ih ⊢
    rw [List.map_cons, List.map_cons, List.flatten_cons, ih, List.flatMap_cons, e, h.look x (hU x List.mem_cons_self)]
    rfl
theorem nodes_tr (B tb q : Nat) (T : List Nd) (w : World) (h : TrAt w B tb q T) :
    Calls Tryz.prog 12 #[.pointer (some ⟨tb, 0, none⟩)] w fun e w' => ∃ g cap, e = .returned (.slice (some ⟨g, 0, none⟩) T.length cap) ∧ w'.ownsRow w.heap.size 45 7 (.slice (some ⟨g, 0, none⟩) T.length cap) T.length (T.flatMap Nd.cs) ∧ Below w.heap.size w w' := by
  obtain ⟨mb, n, D, h1, h2, h3⟩ := h.at'
  have hne : strKeys D ≠ [] := fun e => by
    have h9 := h2.keys
    rw [e] at h9
    have h8 := h9.eq_nil
    simp at h8
    exact h.snd.ne h8
  refine Calls.mono (nodes_any B tb mb n D w h1 (by rw [h2.size]; have := h.snd.inv.len; omega) (h2.wf h.snd.inv.sml) hne) ?_
  rintro e w' ⟨g, cap, ts, rfl, hp, ha, hr, hb⟩
  obtain rfl := h.snd.inv.srt.only (hp.trans h2.keys.symm) ha
  rw [nodeCs_T h2 T (fun x hx => hx)] at hr
  rw [List.length_map] at hr ⊢
  exact ⟨g, cap, rfl, hr, hb⟩
/-- One step of a script, and many. -/
def runS (T : List Nd) (x : StT) : List Nd := if x.k = 1 then (playM T x.s x.st x.os).T else if x.k = 2 then finT T x.s else T
end Go.Proofs.YthelfbdkbldhjaaGreatDoor
namespace Go.Proofs.YthelfbdkbldhjaaGreatDoor
open Go.RowKit Go.Maps Go.WideShapes
set_option linter.unusedVariables false
set_option linter.unusedSimpArgs false
attribute [local go_sem ↓] Go.wp_at_zero Go.wp_at_succ

end Go.Proofs.YthelfbdkbldhjaaGreatDoor
namespace Go.Proofs.YthelfbdkbldhjaaGreatDoor
open Go.RowKit Go.Maps Go.WideShapes
set_option linter.unusedVariables false
set_option linter.unusedSimpArgs false
attribute [local go_sem ↓] Go.wp_at_zero Go.wp_at_succ

theorem below_dN {B : Nat} {a w : World} (h : Below B a w) (n : Nat) : Below B a (w.drewN n) := ⟨h.os, h.tape, h.output, h.size, h.block⟩
theorem flat_at {α : Type} (f : α → List Value) (n : Nat) (hn : ∀ x, (f x).length = n) : ∀ (l : List α) (q j : Nat) (x : α) (v : Value), l[q]? = some x → (f x)[j]? = some v → (l.flatMap f)[q * n + j]? = some v
  | [], q, j, x, v, h, _ => by simp at h
  | y :: r, 0, j, x, v, h, hv => by
    obtain rfl : y = x := by simpa using h
    have hj := (List.getElem?_eq_some_iff.1 hv).1
    rw [List.flatMap_cons, List.getElem?_append_left (by omega), Nat.zero_mul, Nat.zero_add]
    exact hv
  | y :: r, q + 1, j, x, v, h, hv => by
    rw [List.flatMap_cons, List.getElem?_append_right (by rw [hn, Nat.succ_mul]; omega), hn, show (q + 1) * n + j - n = q * n + j by rw [Nat.succ_mul]; omega]
    exact flat_at f n hn r q j x v (by simpa using h) hv
theorem slice_of {w : World} {B e s n : Nat} {v : Value} {xs : List Value} (h : w.ownsRow B e s v n xs) : ∃ a c, v = .slice a n c := by
  rcases h.2 with ⟨rfl, h0⟩ | ⟨g, cap, cur, rfl, _⟩
  · exact ⟨none, 0, by rw [h0]⟩
  · exact ⟨_, _, rfl⟩
/-- A node of a row. -/
theorem nd_cell {w : World} {B g cap : Nat} {T : List Nd} (h : w.ownsRow B 45 7 (.slice (some ⟨g, 0, none⟩) T.length cap) T.length (T.flatMap Nd.cs)) {q j : Nat} {x : Nd} {v : Value} (hx : T[q]? = some x) (hv : x.cs[j]? = some v) : w.cell? ⟨g, q * 7 + j, none⟩ = some v :=
  cell_n h (flat_at Nd.cs 7 (fun _ => rfl) T q j x v hx hv)
theorem ch_cell {w : World} {B g cap : Nat} {C : List ChT} (h : w.ownsRow B 85 4 (.slice (some ⟨g, 0, none⟩) C.length cap) C.length (chCs C)) {q j : Nat} {x : ChT} {v : Value} (hx : C[q]? = some x) (hv : x.cells[j]? = some v) : w.cell? ⟨g, q * 4 + j, none⟩ = some v :=
  cell_n h (flat_at ChT.cells 4 (fun _ => rfl) C q j x v hx hv)
theorem finC_len (T : List Nd) (s : Int) : (finC T s).length ≤ T.length := by
  unfold finC
  split
  · exact Nat.zero_le _
  · unfold endC
    rw [List.length_map]
    exact List.length_filter_le _ _
end Go.Proofs.YthelfbdkbldhjaaGreatDoor
namespace Go.Proofs.YthelfbdkbldhjaaGreatDoor
open Go.RowKit Go.Maps Go.WideShapes
set_option linter.unusedVariables false
set_option linter.unusedSimpArgs false
attribute [local go_sem ↓] Go.wp_at_zero Go.wp_at_succ

theorem ordL_pre : ∀ (s t : List UInt8), t ≠ [] → ordL s (s ++ t) = -1
  | [], [], h => absurd rfl h
  | [], _ :: _, _ => rfl
  | x :: r, t, h => by
    show ordL (x :: r) (x :: (r ++ t)) = -1
    unfold ordL
    rw [if_pos rfl]
    exact ordL_pre r t h
theorem par_pre {p : ByteArray} (hp : (parse p).1 = 0) (hr : p ≠ pRt) : ∃ t, t ≠ [] ∧ p.data.toList = (parB p).data.toList ++ t := by
  obtain ⟨xs, k, x, hx, hl, hk, _⟩ := names_of hp hr
  have hne : xs ≠ [] := fun e => by rw [e] at hl; simp at hl
  have hxs : xs = xs.take k ++ [x] := by
    have := List.take_add_one (l := xs) (i := k)
    rw [hk, ← hl, List.take_length] at this
    exact this
  have ht : p.data.toList = flatN (xs.take k) ++ 47 :: x.data.toList := by
    rw [← parse_back hx, placeB, if_neg hne, data_mk]
    conv => lhs; rw [hxs]
    simp [flatN]
  have hx0 : x.data.toList ≠ [] := fun e => by
    have hall := (parse_len hx).2
    rw [List.all_eq_true] at hall
    have h9 := hall x (List.mem_of_getElem? hk)
    have : x.size = 0 := by have h8 := congrArg List.length e; simpa using h8
    simp [isNm, this] at h9
  rw [par_of (x := x) hx hl]
  by_cases h0 : xs.take k = []
  · refine ⟨x.data.toList, hx0, ?_⟩
    rw [ht, h0, placeB, if_pos rfl, data_mk]
    rfl
  · refine ⟨47 :: x.data.toList, by simp, ?_⟩
    rw [ht, placeB, if_neg h0, data_mk]
theorem par_less {p : ByteArray} (hp : (parse p).1 = 0) (hr : p ≠ pRt) : O (parB p) p = -1 := by
  obtain ⟨t, h0, h1⟩ := par_pre hp hr
  rw [O_list, h1]
  exact ordL_pre _ _ h0
theorem root_less {p : ByteArray} (hp : (parse p).1 = 0) (hr : p ≠ pRt) : O pRt p = -1 := by
  obtain ⟨xs, k, x, hx, hl, hk, _⟩ := names_of hp hr
  have hne : xs ≠ [] := fun e => by rw [e] at hl; simp at hl
  obtain ⟨y, r, rfl⟩ : ∃ y r, xs = y :: r := by cases xs with | nil => exact absurd rfl hne | cons y r => exact ⟨y, r, rfl⟩
  have hy0 : y.data.toList ≠ [] := fun e => by
    have hall := (parse_len hx).2
    rw [List.all_eq_true] at hall
    have h9 := hall y List.mem_cons_self
    have : y.size = 0 := by have h8 := congrArg List.length e; simpa using h8
    simp [isNm, this] at h9
  have ht : p.data.toList = [47] ++ (y.data.toList ++ flatN r) := by
    rw [← parse_back hx, placeB, if_neg hne, data_mk]
    simp [flatN]
  rw [O_list, ht]
  exact ordL_pre [47] _ (by simp [hy0])
theorem Snd.first {T : List Nd} (h : Snd T) : ∃ r, T[0]? = some r ∧ r.p = pRt ∧ r.o = 0 := by
  obtain ⟨r, hr, hp, ho⟩ := h.root
  cases T with
  | nil => cases hr
  | cons x U =>
    refine ⟨x, rfl, ?_⟩
    rcases List.mem_cons.1 hr with rfl | hr
    · exact ⟨hp, ho⟩
    · exfalso
      have h1 := (List.pairwise_cons.1 h.inv.srt).1 r hr
      rw [hp] at h1
      by_cases hx : x.p = pRt
      · rw [hx, O_self] at h1
        cases h1
      · have h2 := root_less (h.inv.nd x List.mem_cons_self).1 hx
        rw [O_anti x.p pRt, h1] at h2
        cases h2
theorem Snd.above {T : List Nd} (h : Snd T) {i : Nat} {x : Nd} (hi : 0 < i) (hx : T[i]? = some x) : x.p ≠ pRt ∧ ∃ k u, k < i ∧ T[k]? = some u ∧ u.p = parB x.p ∧ u.o = 0 := by
  have hil := (List.getElem?_eq_some_iff.1 hx).1
  have hxm := List.mem_of_getElem? hx
  obtain ⟨r, hr0, hrp, _⟩ := h.first
  have hlt : ∀ {j k : Nat} {y z : Nd}, T[j]? = some y → T[k]? = some z → j < k → O y.p z.p = -1 := fun {j k y z} hy hz hjk => by
    obtain ⟨hj, e1⟩ := List.getElem?_eq_some_iff.1 hy
    obtain ⟨hk, e2⟩ := List.getElem?_eq_some_iff.1 hz
    have := List.pairwise_iff_getElem.1 h.inv.srt j k hj hk hjk
    rw [e1, e2] at this
    exact this
  have hxr : x.p ≠ pRt := fun e => by
    have := hlt hr0 hx hi
    rw [hrp, e, O_self] at this
    cases this
  refine ⟨hxr, ?_⟩
  obtain ⟨u, hu, hup, huo⟩ := h.up x hxm hxr
  obtain ⟨k, hk⟩ := List.mem_iff_getElem?.1 hu
  refine ⟨k, u, ?_, hk, hup, huo⟩
  have h1 := par_less (h.inv.nd x hxm).1 hxr
  rcases Nat.lt_trichotomy k i with hki | hki | hki
  · exact hki
  · subst hki
    rw [hx] at hk
    obtain rfl := Option.some.inj hk
    rw [← hup, O_self] at h1
    cases h1
  · have h2 := hlt hx hk hki
    rw [hup] at h2
    rw [O_anti x.p (parB x.p), h2] at h1
    cases h1
theorem Snd.order {T : List Nd} (h : Snd T) {i : Nat} {x y : Nd} (hy : T[i]? = some y) (hx : T[i + 1]? = some x) : O y.p x.p = -1 := by
  obtain ⟨hj, e1⟩ := List.getElem?_eq_some_iff.1 hy
  obtain ⟨hk, e2⟩ := List.getElem?_eq_some_iff.1 hx
  have := List.pairwise_iff_getElem.1 h.inv.srt i (i + 1) hj hk (by omega)
  rw [e1, e2] at this
  exact this
theorem parC_zero {p : ByteArray} (hp : (parse p).1 = 0) (hr : p ≠ pRt) : parC p = 0 := by
  obtain ⟨xs, k, x, hx, hl, _, _⟩ := names_of hp hr
  unfold parC
  rw [hx, if_pos rfl, if_neg (fun e => by rw [show xs = [] from e] at hl; simp at hl)]
end Go.Proofs.YthelfbdkbldhjaaGreatDoor
