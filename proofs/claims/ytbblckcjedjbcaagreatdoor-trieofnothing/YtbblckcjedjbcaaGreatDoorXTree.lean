import Derived.Test.YtbblckcjedjbcaaGreatDoorXIns
import Derived.Test.YtbblckcjedjbcaaGreatDoorCovers
import Derived.Test.YtbblckcjedjbcaaGreatDoorLine
namespace Go.Proofs.YtbblckcjedjbcaaGreatDoor
open Go.RowKit
set_option linter.unusedVariables false
set_option linter.unusedSimpArgs false

set_option maxHeartbeats 3200000 in
theorem find_any (a : Option Addr) (c : Nat) (l : List He) (s i : Int) (w : World) (hs : Hl w a c l) (hl : l.length ≤ 100000) (ho : Ord l) :
    Calls Tryz.prog 44 #[.slice a l.length c, tagV s i] w fun e w' => ∃ n : Nat, e = .returned (.tuple #[.int .i64 n, .bool (hasH l s i)]) ∧ Stood l s i n ∧ Below w.heap.size w w' := by
  have hb0 : Below w.heap.size w (w.alloc (.cells #[.int .i64 s, .int .i64 i] 34)) := (Below.refl _ _).alloc (Nat.le_refl _) _
  have HF : Hid _ := searchH a c l s i _ (hs.below hb0) hl ho
  have HB : Hid _ := hb0
  obtain ⟨y0, y1⟩ := cells_2 (heap_alloc_new w (.cells #[.int .i64 s, .int .i64 i] 34))
  clear hs ho hb0
  go_enter Tryz.func44, Tryz.ntmps44
  go_wp2_with (first | (go_at_call 70; refine Calls.mono HF.out ?_; rintro e w1 ⟨n, rfl, hst, hb⟩; (have HST : Hid _ := hst); clear hst) | fail)
  go_ret2
  exact ⟨n, rfl, HST.out, xtrans2 HB.out hb⟩
theorem Chg.beh {w w1 w2 : World} {S : Nat → Prop} (h : Below w.heap.size w w1) (k : Chg w1 w2 S) : Chg w w2 S :=
  ⟨k.os.trans h.os, k.tape.trans h.tape, k.output.trans h.output, Nat.le_trans h.size k.size, fun i hi hs => (k.block i (Nat.lt_of_lt_of_le hi h.size) hs).trans (h.block i hi)⟩
theorem Hl.own {w : World} {a : Option Addr} {c : Nat} {l : List He} (h : Hl w a c l) {k : Nat} (hk : (Value.slice a l.length c).ownBlock = some k) : k < w.heap.size := (h.1.lt k hk).2
set_option maxHeartbeats 6400000 in
theorem with_any (a : Option Addr) (c : Nat) (l : List He) (h : He) (w : World) (hs : Hl w a c l) (hh : HdAt w h) (hl : l.length ≤ 100000) (ho : Ord l) :
    Calls Tryz.prog 41 #[.slice a l.length c, h.ptr] w fun e w' => ∃ v', e = .returned v' ∧ w'.ownsRow 0 91 1 v' (insH h l).length (ptrs (insH h l)) ∧ Chg w w' (fun k => (Value.slice a l.length c).ownBlock = some k) ∧ (∀ k, v'.ownBlock = some k → (Value.slice a l.length c).ownBlock = some k ∨ w.heap.size ≤ k) := by
  have HS : Hid (Hl w a c l) := hs
  have HH : Hid (HdAt w h) := hh
  have HO : Hid (Ord l) := ho
  clear hs hh ho
  go_enter Tryz.func41, Tryz.ntmps41
  go_wp2_with (first
    | (go_at_call 33; refine (tag_any h w HH.out).mono ?_; rintro e w1 ⟨rfl, hb1⟩
       have HB1 : Hid (Below w.heap.size w w1) := hb1
       clear hb1)
    | (go_at_call 44; refine (find_any a c l h.s h.i w1 (HS.out.below HB1.out) hl HO.out).mono ?_; rintro e w2 ⟨n, rfl, hst, hb2⟩
       have HB2 : Hid (Below w.heap.size w w2) := xtrans2 HB1.out hb2
       have HST : Hid _ := hst
       clear hst hb2)
    | (go_at_call 67
       refine (insert_any 0 w2.heap.size n a c l h (w2.alloc (.cells #[h.ptr] 91)) (owns_below (HS.out.below HB2.out).1 ((Below.refl _ _).alloc (Nat.le_refl _) _)) HST.out.le hl (heap_alloc_new _ _) (fun e => Nat.lt_irrefl _ ((HS.out.below HB2.out).own e)) (Nat.zero_le _)).mono ?_
       rintro e w3 ⟨v', rfl, ho3, hc3, ha3⟩
       have HO3 : Hid _ := ho3
       have HC3 : Hid _ := hc3
       have HA3 : Hid _ := ha3
       clear ho3 hc3 ha3)
    | fail)
  go_ret
  have he := ins_at (h := h) HST.out.lo HST.out.hi
  refine ⟨v', rfl, ?_, Chg.beh (HB2.out.alloc (by have := HB2.out.size; omega) _) HC3.out, fun k hk => (HA3.out k hk).imp id (fun e => ?_)⟩
  · rw [ins_len]
    have := HO3.out
    rw [he] at this
    exact this
  · have := HB2.out.size
    simp at e
    omega
theorem rw_of_hl {w : World} {a : Option Addr} {c : Nat} {l : List He} (hs : Hl w a c l) (hne : l ≠ []) : ∃ g cur, a = some ⟨g, 0, none⟩ ∧ Rw w g c l cur := by
  obtain ⟨x, hx⟩ : ∃ x, l[0]? = some x := by
    cases l with
    | nil => exact absurd rfl hne
    | cons x r => exact ⟨x, rfl⟩
  obtain ⟨g, rfl, _⟩ := hs.at hx
  obtain ⟨cur, h, _⟩ := rw_of hs.1
  exact ⟨g, cur, rfl, h⟩
theorem stood_at {l : List He} {h : He} {n : Nat} (ho : Ord l) (hm : h ∈ l) (hst : Stood l h.s h.i n) : l[n]? = some h := by
  obtain ⟨j, hj⟩ := List.getElem?_of_mem hm
  have hjl := (List.getElem?_eq_some_iff.1 hj).1
  rcases Nat.lt_trichotomy j n with h1 | h1 | h1
  · have := hst.lo j h h1 hj
    rw [bef_irr] at this
    cases this
  · subst h1; exact hj
  · obtain ⟨y, hy⟩ : ∃ y, l[n]? = some y := ⟨l[n], List.getElem?_eq_getElem (by omega)⟩
    have h2 := hst.hi n y (Nat.le_refl _) hy
    have h3 := List.pairwise_iff_getElem.1 ho n j (by omega) hjl h1
    rw [(List.getElem?_eq_some_iff.1 hy).2, (List.getElem?_eq_some_iff.1 hj).2] at h3
    rw [befH, h2] at h3
    cases h3
set_option maxHeartbeats 6400000 in
theorem without_any (a : Option Addr) (c : Nat) (l : List He) (h : He) (w : World) (hs : Hl w a c l) (hm : h ∈ l) (hl : l.length ≤ 100000) (ho : Ord l) :
    Calls Tryz.prog 46 #[.slice a l.length c, h.ptr] w fun e w' => ∃ v', e = .returned v' ∧ w'.ownsRow 0 91 1 v' (delH h.s h.i l).length (ptrs (delH h.s h.i l)) ∧ Chg w w' (fun k => (Value.slice a l.length c).ownBlock = some k) ∧ (∀ k, v'.ownBlock = some k → (Value.slice a l.length c).ownBlock = some k) := by
  have hne : l ≠ [] := fun e => by rw [e] at hm; cases hm
  obtain ⟨g, cur, rfl, _⟩ := rw_of_hl hs hne
  have HS : Hid (Hl w (some ⟨g, 0, none⟩) c l) := hs
  have HH : Hid (HdAt w h) := hs.2 h hm
  have HO : Hid (Ord l) := ho
  have HM : Hid (h ∈ l) := hm
  have HN : Hid (l ≠ []) := hne
  clear hs ho hm hne
  go_enter Tryz.func46, Tryz.ntmps46
  go_wp2_with (first
    | (go_at_call 33; refine (tag_any h w HH.out).mono ?_; rintro e w1 ⟨rfl, hb1⟩
       have HB1 : Hid (Below w.heap.size w w1) := hb1
       clear hb1)
    | (go_at_call 44; refine (find_any _ c l h.s h.i w1 (HS.out.below HB1.out) hl HO.out).mono ?_; rintro e w2 ⟨n, rfl, hst, hb2⟩
       have HB2 : Hid (Below w.heap.size w w2) := xtrans2 HB1.out hb2
       have HX : Hid _ := stood_at HO.out HM.out hst
       have hnl : n < l.length := (List.getElem?_eq_some_iff.1 HX.out).1
       have hwr : IntKind.i64.wrap ((n : Int) + 1) = (n : Int) + 1 := by rw [IntKind.wrap_i64]; omega
       clear hst hb2)
    | fail)
  obtain ⟨g', cur', e', hr⟩ := rw_of_hl (HS.out.below HB2.out) HN.out
  cases e'
  refine (delete_any g c n l cur' w2 hr hnl).mono ?_
  rintro e w3 ⟨rfl, ⟨cur3, h3⟩, hc3⟩
  have HO3 : Hid _ := h3
  have HC3 : Hid _ := hc3
  clear h3 hc3 hr
  go_wp2_with fail
  go_ret
  have he := del_at HO.out HX.out
  have hlen : (delH h.s h.i l).length = l.length - 1 := by have := del_len HO.out HM.out; omega
  refine ⟨_, rfl, ?_, (Chg.beh HB2.out HC3.out).mono (fun k _ e => by rw [e]; rfl), fun k hk => hk⟩
  have h5 := HO3.out.owns (base := 0) (Nat.zero_le _)
  rw [he] at h5
  rw [hlen] at h5 ⊢
  exact h5
end Go.Proofs.YtbblckcjedjbcaaGreatDoor
namespace Go.Proofs.YtbblckcjedjbcaaGreatDoor
open Go.RowKit Go.Maps Go.WideShapes
set_option linter.unusedVariables false
set_option linter.unusedSimpArgs false

abbrev Way := List ByteArray
/-- The names that lead to it. -/
def He.way (h : He) : Way := (parse h.p).2
/-- Where all lies: nodes, their maps, their lists; and what stands behind the root. -/
structure Lay where
  β : Way → Nat
  μ : Way → Option Nat
  ρ : Way → Value
  σ : Value
/-- The watches of a place itself. -/
def here (hs : List He) (p : Way) : List He := hs.filter (fun h => decide (h.way = p))
theorem here_mem {hs : List He} {p : Way} {h : He} : h ∈ here hs p ↔ h ∈ hs ∧ h.way = p := by simp [here]
theorem kyX_inj {a b : ByteArray} (h : ky a = ky b) : a = b := by
  have h1 : a.data.toList = b.data.toList := by simpa [ky] using h
  exact ByteArray.ext (Array.ext' h1)
theorem kyX_lit (a : ByteArray) : WideAt.IsKeyLit (ky a) := by simp [ky, WideAt.IsKeyLit]
/-- A map whose keys are texts. -/
def StrX (D : DataW Value) : Prop := ∃ es, D = .map es ∧ ∀ p ∈ es, ∃ x, p.1 = .string x
theorem StrX.isMap {D : DataW Value} (h : StrX D) : IsMap D := by obtain ⟨es, rfl, _⟩ := h; exact ⟨es, rfl⟩
theorem StrX.put {D : DataW Value} (h : StrX D) (s : ByteArray) (d : DataW Value) : StrX (D.put (ky s) d) := by
  obtain ⟨es, rfl, hs⟩ := h
  refine ⟨_, rfl, fun p hp => ?_⟩
  rcases List.mem_cons.1 ((insert_perm _ _).mem_iff.1 hp) with rfl | hp
  · exact ⟨_, rfl⟩
  · exact hs p (List.mem_filter.1 hp).1
theorem StrX.del {D : DataW Value} (h : StrX D) (k : Lit) : StrX (D.del k) := by
  obtain ⟨es, rfl, hs⟩ := h
  exact ⟨_, rfl, fun p hp => hs p (List.mem_filter.1 hp).1⟩
abbrev ndV (b : Nat) : Value := .pointer (some ⟨b, 0, none⟩)
/-- A map holds just the kids of a place. -/
structure KR (Dm : DataW Value) (p : Way) (D : List Way) (β : Way → Nat) : Prop where
  tidy : Tidy Dm
  str : StrX Dm
  has : ∀ n, Maps.has Dm (ky n) = true ↔ p ++ [n] ∈ D
  look : ∀ n z, p ++ [n] ∈ D → Dm.atKey (ky n) z = .held (ndV (β (p ++ [n])))
def KidsAt (w : World) (m : Option Nat) (p : Way) (D : List Way) (β : Way → Nat) : Prop :=
  (m = none ∧ ∀ n, p ++ [n] ∉ D) ∨ ∃ b Dm, m = some b ∧ MapAt w b (Maps.size Dm) Dm ∧ KR Dm p D β
def NdAt (w : World) (y : Lay) (p : Way) : Prop :=
  ∃ cur, w.heap[y.β p]? = some (.cells cur (if p = [] then 81 else 78) (0, 0)) ∧ cur[0]? = some (.map (y.μ p)) ∧ cur[1]? = some (y.ρ p) ∧ (p = [] → cur[2]? = some y.σ)
/-- The nodes D, and the watches hs at them. -/
structure Tr (w : World) (y : Lay) (D : List Way) (hs : List He) : Prop where
  ord : Ord hs
  root : [] ∈ D
  up : ∀ p n, p ++ [n] ∈ D → p ∈ D
  dn : D.Nodup
  sml : ∀ p ∈ D, ∀ n ∈ p, n.size ≤ 1000
  inj : ∀ p ∈ D, ∀ q ∈ D, y.β p = y.β q → p = q
  nd : ∀ p ∈ D, NdAt w y p
  row : ∀ p ∈ D, w.ownsRow 0 91 1 (y.ρ p) (here hs p).length (ptrs (here hs p))
  rap : ∀ p ∈ D, ∀ q ∈ D, p ≠ q → ∀ k, (y.ρ p).ownBlock = some k → (y.ρ q).ownBlock ≠ some k
  kids : ∀ p ∈ D, KidsAt w (y.μ p) p D y.β
  map : ∀ p ∈ D, ∀ q ∈ D, p ≠ q → ∀ k, y.μ p = some k → y.μ q ≠ some k
  held : ∀ h ∈ hs, HdAt w h
/-- What the nodes lie in, and may be written. -/
def Wt (y : Lay) (D : List Way) (k : Nat) : Prop := (∃ p ∈ D, y.β p = k) ∨ (∃ p ∈ D, y.μ p = some k) ∨ ∃ p ∈ D, (y.ρ p).ownBlock = some k
def Ft (y : Lay) (D : List Way) (hs : List He) (k : Nat) : Prop := Wt y D k ∨ ∃ h ∈ hs, h.b = k
theorem NdAt.chg {w w' : World} {y : Lay} {p : Way} {S : Nat → Prop} (h : NdAt w y p) (hc : Chg w w' S) (hs : ¬ S (y.β p)) : NdAt w' y p := by
  obtain ⟨cur, h1, r⟩ := h
  exact ⟨cur, by rw [hc.block _ (lt_of_blk h1) hs]; exact h1, r⟩
theorem KidsAt.chg {w w' : World} {m : Option Nat} {p : Way} {D : List Way} {β : Way → Nat} {S : Nat → Prop} (h : KidsAt w m p D β) (hc : Chg w w' S) (hs : ∀ k, m = some k → ¬ S k) : KidsAt w' m p D β := by
  rcases h with h | ⟨b, Dm, h1, h2, h3⟩
  · exact .inl h
  · exact .inr ⟨b, Dm, h1, map_chg h2 hc (hs b h1), h3⟩
theorem owns_chg {w w' : World} {B e s n : Nat} {v : Value} {xs : List Value} {S : Nat → Prop} (h : w.ownsRow B e s v n xs) (hc : Chg w w' S) (hs : ∀ k, v.ownBlock = some k → ¬ S k) : w'.ownsRow B e s v n xs :=
  owns_same h (fun k hk => hc.block k (h.lt k hk).2 (hs k hk))
theorem Tr.chg {w w' : World} {y : Lay} {D : List Way} {hs : List He} {S : Nat → Prop} (h : Tr w y D hs) (hc : Chg w w' S) (hS : ∀ k, Ft y D hs k → ¬ S k) : Tr w' y D hs :=
  { h with
    nd := fun p hp => (h.nd p hp).chg hc (hS _ (.inl (.inl ⟨p, hp, rfl⟩)))
    row := fun p hp => owns_chg (h.row p hp) hc (fun k hk => hS k (.inl (.inr (.inr ⟨p, hp, hk⟩))))
    kids := fun p hp => (h.kids p hp).chg hc (fun k hk => hS k (.inl (.inr (.inl ⟨p, hp, hk⟩))))
    held := fun x hx => (h.held x hx).chg hc (hS _ (.inr ⟨x, hx, rfl⟩)) }
theorem Tr.below {w w' : World} {y : Lay} {D : List Way} {hs : List He} (h : Tr w y D hs) (hb : Below w.heap.size w w') : Tr w' y D hs :=
  h.chg (Chg.of_below hb (fun _ => False)) (fun _ _ => id)
/-- What kinds of blocks they are. -/
theorem Tr.kβ {w : World} {y : Lay} {D : List Way} {hs : List He} (h : Tr w y D hs) {p : Way} (hp : p ∈ D) : ∃ cur t, w.heap[y.β p]? = some (.cells cur t (0, 0)) ∧ (t = 81 ∨ t = 78) := by
  obtain ⟨cur, h1, _⟩ := h.nd p hp
  refine ⟨cur, _, h1, ?_⟩
  split
  · exact .inl rfl
  · exact .inr rfl
theorem Tr.kρ {w : World} {y : Lay} {D : List Way} {hs : List He} (h : Tr w y D hs) {p : Way} (hp : p ∈ D) {k : Nat} (hk : (y.ρ p).ownBlock = some k) : ∃ cur, w.heap[k]? = some (.cells cur 91 (0, 0)) := owns_kind (h.row p hp) hk
theorem Tr.kμ {w : World} {y : Lay} {D : List Way} {hs : List He} (h : Tr w y D hs) {p : Way} (hp : p ∈ D) {k : Nat} (hk : y.μ p = some k) : ∃ es c, w.heap[k]? = some (.map es c) := by
  rcases h.kids p hp with ⟨h1, _⟩ | ⟨b, Dm, h1, h2, _⟩
  · rw [h1] at hk; cases hk
  · rw [h1] at hk
    cases hk
    obtain ⟨es, c, hb, _⟩ := h2
    exact ⟨es, c, hb⟩
theorem Tr.lt {w : World} {y : Lay} {D : List Way} {hs : List He} (h : Tr w y D hs) {k : Nat} (hk : Ft y D hs k) : k < w.heap.size := by
  rcases hk with (⟨p, hp, rfl⟩ | ⟨p, hp, hk⟩ | ⟨p, hp, hk⟩) | ⟨x, hx, rfl⟩
  · obtain ⟨cur, t, h1, _⟩ := h.kβ hp
    exact lt_of_blk h1
  · obtain ⟨es, c, h1⟩ := h.kμ hp hk
    exact lt_of_blk h1
  · obtain ⟨cur, h1⟩ := h.kρ hp hk
    exact lt_of_blk h1
  · exact lt_of_blk (h.held x hx)
theorem Tr.βρ {w : World} {y : Lay} {D : List Way} {hs : List He} (h : Tr w y D hs) {p q : Way} (hp : p ∈ D) (hq : q ∈ D) {k : Nat} (hk : (y.ρ q).ownBlock = some k) : y.β p ≠ k := by
  obtain ⟨c1, t, h1, ht⟩ := h.kβ hp
  obtain ⟨c2, h2⟩ := h.kρ hq hk
  rintro rfl
  rw [h1] at h2
  simp only [Option.some.injEq, Obj.cells.injEq] at h2
  rcases ht with rfl | rfl
  · exact absurd h2.2.1 (by decide)
  · exact absurd h2.2.1 (by decide)
theorem Tr.βμ {w : World} {y : Lay} {D : List Way} {hs : List He} (h : Tr w y D hs) {p q : Way} (hp : p ∈ D) (hq : q ∈ D) {k : Nat} (hk : y.μ q = some k) : y.β p ≠ k := by
  obtain ⟨c1, t, h1, ht⟩ := h.kβ hp
  obtain ⟨es, c, h2⟩ := h.kμ hq hk
  rintro rfl
  rw [h1] at h2
  cases h2
theorem Tr.ρμ {w : World} {y : Lay} {D : List Way} {hs : List He} (h : Tr w y D hs) {p q : Way} (hp : p ∈ D) (hq : q ∈ D) {k j : Nat} (hk : (y.ρ p).ownBlock = some k) (hj : y.μ q = some j) : k ≠ j := by
  obtain ⟨c1, h1⟩ := h.kρ hp hk
  obtain ⟨es, c, h2⟩ := h.kμ hq hj
  rintro rfl
  rw [h1] at h2
  cases h2
theorem Tr.hβ {w : World} {y : Lay} {D : List Way} {hs : List He} (h : Tr w y D hs) {p : Way} (hp : p ∈ D) {x : He} (hx : HdAt w x) : x.b ≠ y.β p := by
  obtain ⟨c1, t, h1, ht⟩ := h.kβ hp
  unfold HdAt at hx
  intro e
  rw [e, h1] at hx
  simp only [Option.some.injEq, Obj.cells.injEq] at hx
  rcases ht with rfl | rfl
  · exact absurd hx.2.1 (by decide)
  · exact absurd hx.2.1 (by decide)
theorem Tr.hρ {w : World} {y : Lay} {D : List Way} {hs : List He} (h : Tr w y D hs) {p : Way} (hp : p ∈ D) {x : He} (hx : HdAt w x) {k : Nat} (hk : (y.ρ p).ownBlock = some k) : x.b ≠ k := by
  obtain ⟨c1, h1⟩ := h.kρ hp hk
  unfold HdAt at hx
  intro e
  rw [e, h1] at hx
  simp only [Option.some.injEq, Obj.cells.injEq] at hx
  exact absurd hx.2.1 (by decide)
theorem Tr.hμ {w : World} {y : Lay} {D : List Way} {hs : List He} (h : Tr w y D hs) {p : Way} (hp : p ∈ D) {x : He} (hx : HdAt w x) {k : Nat} (hk : y.μ p = some k) : x.b ≠ k := by
  obtain ⟨es, c, h1⟩ := h.kμ hp hk
  unfold HdAt at hx
  intro e
  rw [e, h1] at hx
  cases hx
theorem Tr.hl {w : World} {y : Lay} {D : List Way} {hs : List He} (h : Tr w y D hs) {p : Way} (hp : p ∈ D) : ∃ a c, y.ρ p = .slice a (here hs p).length c ∧ Hl w a c (here hs p) := by
  have hr := h.row p hp
  have hh : ∀ x ∈ here hs p, HdAt w x := fun x hx => h.held x (here_mem.1 hx).1
  rcases hr.2 with ⟨h0, h1⟩ | ⟨g, cap, cur, hv, r⟩
  · refine ⟨none, 0, by rw [h0, h1], ?_, hh⟩
    rw [h1]
    rw [h0, h1] at hr
    exact hr
  · refine ⟨some ⟨g, 0, none⟩, cap, hv, ?_, hh⟩
    rw [hv] at hr
    exact hr
/-- Cells of a node. -/
theorem NdAt.cells {w : World} {y : Lay} {p : Way} (h : NdAt w y p) : w.cell? ⟨y.β p, 0, none⟩ = some (.map (y.μ p)) ∧ w.cell? ⟨y.β p, 1, none⟩ = some (y.ρ p) ∧ (p = [] → w.cell? ⟨y.β p, 2, none⟩ = some y.σ) ∧ ∀ o, w.frozen? ⟨y.β p, o, none⟩ = false := by
  obtain ⟨cur, h1, h2, h3, h4⟩ := h
  refine ⟨?_, ?_, fun e => ?_, fun o => ?_⟩
  · simp [World.cell?, h1, h2]
  · simp [World.cell?, h1, h3]
  · simp [World.cell?, h1, h4 e]
  · simp [World.frozen?, h1]
end Go.Proofs.YtbblckcjedjbcaaGreatDoor
