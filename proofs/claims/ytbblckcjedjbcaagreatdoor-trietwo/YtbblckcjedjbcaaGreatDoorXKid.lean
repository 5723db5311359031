import Derived.Test.YtbblckcjedjbcaaGreatDoorXIns
import Derived.Test.YtbblckcjedjbcaaGreatDoorCovers
import Derived.Test.YtbblckcjedjbcaaGreatDoorLine
import Derived.Sort.KeysCollected
namespace Go.Proofs.YtbblckcjedjbcaaGreatDoor
open Go.RowKit
set_option linter.unusedVariables false
set_option linter.unusedSimpArgs false

set_option maxHeartbeats 3200000 in
theorem find_any (a : Option Addr) (c : Nat) (l : List He) (s i : Int) (w : World) (hs : Hl w a c l) (hl : l.length ≤ 100000) (ho : Ord l) :
    Calls Tryz.prog 44 #[.slice a l.length c, tagV s i] w fun e w' => ∃ n : Nat, e = .returned (.tuple #[.int .i64 n, .bool (hasH l s i)]) ∧ Stood l s i n ∧ Below w.heap.size w w' := by
  have hb0 : Below w.heap.size w (w.alloc (.cells #[.int .i64 s, .int .i64 i] 34)) := (Below.refl _ _).alloc (Nat.le_refl _) _
  have HF : Hid _ := searchH a c l s i _ (hs.below hb0) hl ho
  have HB : Hid _ := hb0
  obtain ⟨y0, y1⟩ := cells_2 (heap_alloc_new w (.cells #[.int .i64 s, .int .i64 i] 34))
  clear hs ho hb0
  go_enter Tryz.func44, Tryz.ntmps44
  go_wp2_with (first | (go_at_call 70; refine Calls.mono HF.out ?_; rintro e w1 ⟨n, rfl, hst, hb⟩; (have HST : Hid _ := hst); clear hst) | fail)
  go_ret2
  exact ⟨n, rfl, HST.out, xtrans2 HB.out hb⟩
theorem Chg.beh {w w1 w2 : World} {S : Nat → Prop} (h : Below w.heap.size w w1) (k : Chg w1 w2 S) : Chg w w2 S :=
  ⟨k.os.trans h.os, k.tape.trans h.tape, k.output.trans h.output, Nat.le_trans h.size k.size, fun i hi hs => (k.block i (Nat.lt_of_lt_of_le hi h.size) hs).trans (h.block i hi)⟩
theorem Hl.own {w : World} {a : Option Addr} {c : Nat} {l : List He} (h : Hl w a c l) {k : Nat} (hk : (Value.slice a l.length c).ownBlock = some k) : k < w.heap.size := (h.1.lt k hk).2
set_option maxHeartbeats 6400000 in
theorem with_any (a : Option Addr) (c : Nat) (l : List He) (h : He) (w : World) (hs : Hl w a c l) (hh : HdAt w h) (hl : l.length ≤ 100000) (ho : Ord l) :
    Calls Tryz.prog 41 #[.slice a l.length c, h.ptr] w fun e w' => ∃ v', e = .returned v' ∧ w'.ownsRow 0 91 1 v' (insH h l).length (ptrs (insH h l)) ∧ Chg w w' (fun k => (Value.slice a l.length c).ownBlock = some k) ∧ (∀ k, v'.ownBlock = some k → (Value.slice a l.length c).ownBlock = some k ∨ w.heap.size ≤ k) := by
  have HS : Hid (Hl w a c l) := hs
  have HH : Hid (HdAt w h) := hh
  have HO : Hid (Ord l) := ho
  clear hs hh ho
  go_enter Tryz.func41, Tryz.ntmps41
  go_wp2_with (first
    | (go_at_call 33; refine (tag_any h w HH.out).mono ?_; rintro e w1 ⟨rfl, hb1⟩
       have HB1 : Hid (Below w.heap.size w w1) := hb1
       clear hb1)
    | (go_at_call 44; refine (find_any a c l h.s h.i w1 (HS.out.below HB1.out) hl HO.out).mono ?_; rintro e w2 ⟨n, rfl, hst, hb2⟩
       have HB2 : Hid (Below w.heap.size w w2) := xtrans2 HB1.out hb2
       have HST : Hid _ := hst
       clear hst hb2)
    | (go_at_call 67
       refine (insert_any 0 w2.heap.size n a c l h (w2.alloc (.cells #[h.ptr] 91)) (owns_below (HS.out.below HB2.out).1 ((Below.refl _ _).alloc (Nat.le_refl _) _)) HST.out.le hl (heap_alloc_new _ _) (fun e => Nat.lt_irrefl _ ((HS.out.below HB2.out).own e)) (Nat.zero_le _)).mono ?_
       rintro e w3 ⟨v', rfl, ho3, hc3, ha3⟩
       have HO3 : Hid _ := ho3
       have HC3 : Hid _ := hc3
       have HA3 : Hid _ := ha3
       clear ho3 hc3 ha3)
    | fail)
  go_ret
  have he := ins_at (h := h) HST.out.lo HST.out.hi
  refine ⟨v', rfl, ?_, Chg.beh (HB2.out.alloc (by have := HB2.out.size; omega) _) HC3.out, fun k hk => (HA3.out k hk).imp id (fun e => ?_)⟩
  · rw [ins_len]
    have := HO3.out
    rw [he] at this
    exact this
  · have := HB2.out.size
    simp at e
    omega
theorem rw_of_hl {w : World} {a : Option Addr} {c : Nat} {l : List He} (hs : Hl w a c l) (hne : l ≠ []) : ∃ g cur, a = some ⟨g, 0, none⟩ ∧ Rw w g c l cur := by
  obtain ⟨x, hx⟩ : ∃ x, l[0]? = some x := by
    cases l with
    | nil => exact absurd rfl hne
    | cons x r => exact ⟨x, rfl⟩
  obtain ⟨g, rfl, _⟩ := hs.at hx
  obtain ⟨cur, h, _⟩ := rw_of hs.1
  exact ⟨g, cur, rfl, h⟩
theorem stood_at {l : List He} {h : He} {n : Nat} (ho : Ord l) (hm : h ∈ l) (hst : Stood l h.s h.i n) : l[n]? = some h := by
  obtain ⟨j, hj⟩ := List.getElem?_of_mem hm
  have hjl := (List.getElem?_eq_some_iff.1 hj).1
  rcases Nat.lt_trichotomy j n with h1 | h1 | h1
  · have := hst.lo j h h1 hj
    rw [bef_irr] at this
    cases this
  · subst h1; exact hj
  · obtain ⟨y, hy⟩ : ∃ y, l[n]? = some y := ⟨l[n], List.getElem?_eq_getElem (by omega)⟩
    have h2 := hst.hi n y (Nat.le_refl _) hy
    have h3 := List.pairwise_iff_getElem.1 ho n j (by omega) hjl h1
    rw [(List.getElem?_eq_some_iff.1 hy).2, (List.getElem?_eq_some_iff.1 hj).2] at h3
    rw [befH, h2] at h3
    cases h3
set_option maxHeartbeats 6400000 in
theorem without_any (a : Option Addr) (c : Nat) (l : List He) (h : He) (w : World) (hs : Hl w a c l) (hm : h ∈ l) (hl : l.length ≤ 100000) (ho : Ord l) :
    Calls Tryz.prog 46 #[.slice a l.length c, h.ptr] w fun e w' => ∃ v', e = .returned v' ∧ w'.ownsRow 0 91 1 v' (delH h.s h.i l).length (ptrs (delH h.s h.i l)) ∧ Chg w w' (fun k => (Value.slice a l.length c).ownBlock = some k) ∧ (∀ k, v'.ownBlock = some k → (Value.slice a l.length c).ownBlock = some k) := by
  have hne : l ≠ [] := fun e => by rw [e] at hm; cases hm
  obtain ⟨g, cur, rfl, _⟩ := rw_of_hl hs hne
  have HS : Hid (Hl w (some ⟨g, 0, none⟩) c l) := hs
  have HH : Hid (HdAt w h) := hs.2 h hm
  have HO : Hid (Ord l) := ho
  have HM : Hid (h ∈ l) := hm
  have HN : Hid (l ≠ []) := hne
  clear hs ho hm hne
  go_enter Tryz.func46, Tryz.ntmps46
  go_wp2_with (first
    | (go_at_call 33; refine (tag_any h w HH.out).mono ?_; rintro e w1 ⟨rfl, hb1⟩
       have HB1 : Hid (Below w.heap.size w w1) := hb1
       clear hb1)
    | (go_at_call 44; refine (find_any _ c l h.s h.i w1 (HS.out.below HB1.out) hl HO.out).mono ?_; rintro e w2 ⟨n, rfl, hst, hb2⟩
       have HB2 : Hid (Below w.heap.size w w2) := xtrans2 HB1.out hb2
       have HX : Hid _ := stood_at HO.out HM.out hst
       have hnl : n < l.length := (List.getElem?_eq_some_iff.1 HX.out).1
       have hwr : IntKind.i64.wrap ((n : Int) + 1) = (n : Int) + 1 := by rw [IntKind.wrap_i64]; omega
       clear hst hb2)
    | fail)
  obtain ⟨g', cur', e', hr⟩ := rw_of_hl (HS.out.below HB2.out) HN.out
  cases e'
  refine (delete_any g c n l cur' w2 hr hnl).mono ?_
  rintro e w3 ⟨rfl, ⟨cur3, h3⟩, hc3⟩
  have HO3 : Hid _ := h3
  have HC3 : Hid _ := hc3
  clear h3 hc3 hr
  go_wp2_with fail
  go_ret
  have he := del_at HO.out HX.out
  have hlen : (delH h.s h.i l).length = l.length - 1 := by have := del_len HO.out HM.out; omega
  refine ⟨_, rfl, ?_, (Chg.beh HB2.out HC3.out).mono (fun k _ e => by rw [e]; rfl), fun k hk => hk⟩
  have h5 := HO3.out.owns (base := 0) (Nat.zero_le _)
  rw [he] at h5
  rw [hlen] at h5 ⊢
  exact h5
end Go.Proofs.YtbblckcjedjbcaaGreatDoor
namespace Go.Proofs.YtbblckcjedjbcaaGreatDoor
open Go.RowKit Go.Maps Go.WideShapes
set_option linter.unusedVariables false
set_option linter.unusedSimpArgs false

abbrev Way := List ByteArray
/-- The names that lead to it. -/
def He.way (h : He) : Way := (parse h.p).2
/-- Where all lies: nodes, their maps, their lists; and what stands behind the root. -/
structure Lay where
  β : Way → Nat
  μ : Way → Option Nat
  ρ : Way → Value
  σ : Value
/-- The watches of a place itself. -/
def here (hs : List He) (p : Way) : List He := hs.filter (fun h => decide (h.way = p))
theorem here_mem {hs : List He} {p : Way} {h : He} : h ∈ here hs p ↔ h ∈ hs ∧ h.way = p := by simp [here]
theorem kyX_inj {a b : ByteArray} (h : ky a = ky b) : a = b := by
  have h1 : a.data.toList = b.data.toList := by simpa [ky] using h
  exact ByteArray.ext (Array.ext' h1)
theorem kyX_lit (a : ByteArray) : WideAt.IsKeyLit (ky a) := by simp [ky, WideAt.IsKeyLit]
/-- A map whose keys are texts. -/
def StrX (D : DataW Value) : Prop := ∃ es, D = .map es ∧ ∀ p ∈ es, ∃ x, p.1 = .string x
theorem StrX.isMap {D : DataW Value} (h : StrX D) : IsMap D := by obtain ⟨es, rfl, _⟩ := h; exact ⟨es, rfl⟩
theorem StrX.put {D : DataW Value} (h : StrX D) (s : ByteArray) (d : DataW Value) : StrX (D.put (ky s) d) := by
  obtain ⟨es, rfl, hs⟩ := h
  refine ⟨_, rfl, fun p hp => ?_⟩
  rcases List.mem_cons.1 ((insert_perm _ _).mem_iff.1 hp) with rfl | hp
  · exact ⟨_, rfl⟩
  · exact hs p (List.mem_filter.1 hp).1
theorem StrX.del {D : DataW Value} (h : StrX D) (k : Lit) : StrX (D.del k) := by
  obtain ⟨es, rfl, hs⟩ := h
  exact ⟨_, rfl, fun p hp => hs p (List.mem_filter.1 hp).1⟩
abbrev ndV (b : Nat) : Value := .pointer (some ⟨b, 0, none⟩)
/-- A map holds just the kids of a place. -/
structure KR (Dm : DataW Value) (p : Way) (D : List Way) (β : Way → Nat) : Prop where
  tidy : Tidy Dm
  str : StrX Dm
  has : ∀ n, Maps.has Dm (ky n) = true ↔ p ++ [n] ∈ D
  look : ∀ n z, p ++ [n] ∈ D → Dm.atKey (ky n) z = .held (ndV (β (p ++ [n])))
def KidsAt (w : World) (m : Option Nat) (p : Way) (D : List Way) (β : Way → Nat) : Prop :=
  (m = none ∧ ∀ n, p ++ [n] ∉ D) ∨ ∃ b Dm, m = some b ∧ MapAt w b (Maps.size Dm) Dm ∧ KR Dm p D β
def NdAt (w : World) (y : Lay) (p : Way) : Prop :=
  ∃ cur, w.heap[y.β p]? = some (.cells cur (if p = [] then 81 else 78) (0, 0)) ∧ cur[0]? = some (.map (y.μ p)) ∧ cur[1]? = some (y.ρ p) ∧ (p = [] → cur[2]? = some y.σ)
/-- The nodes D, and the watches hs at them. -/
structure Tr (w : World) (y : Lay) (D : List Way) (hs : List He) : Prop where
  ord : Ord hs
  root : [] ∈ D
  up : ∀ p n, p ++ [n] ∈ D → p ∈ D
  dn : D.Nodup
  sml : ∀ p ∈ D, ∀ n ∈ p, n.size ≤ 1000
  inj : ∀ p ∈ D, ∀ q ∈ D, y.β p = y.β q → p = q
  nd : ∀ p ∈ D, NdAt w y p
  row : ∀ p ∈ D, w.ownsRow 0 91 1 (y.ρ p) (here hs p).length (ptrs (here hs p))
  rap : ∀ p ∈ D, ∀ q ∈ D, p ≠ q → ∀ k, (y.ρ p).ownBlock = some k → (y.ρ q).ownBlock ≠ some k
  kids : ∀ p ∈ D, KidsAt w (y.μ p) p D y.β
  map : ∀ p ∈ D, ∀ q ∈ D, p ≠ q → ∀ k, y.μ p = some k → y.μ q ≠ some k
  held : ∀ h ∈ hs, HdAt w h
/-- What the nodes lie in, and may be written. -/
def Wt (y : Lay) (D : List Way) (k : Nat) : Prop := (∃ p ∈ D, y.β p = k) ∨ (∃ p ∈ D, y.μ p = some k) ∨ ∃ p ∈ D, (y.ρ p).ownBlock = some k
def Ft (y : Lay) (D : List Way) (hs : List He) (k : Nat) : Prop := Wt y D k ∨ ∃ h ∈ hs, h.b = k
theorem NdAt.chg {w w' : World} {y : Lay} {p : Way} {S : Nat → Prop} (h : NdAt w y p) (hc : Chg w w' S) (hs : ¬ S (y.β p)) : NdAt w' y p := by
  obtain ⟨cur, h1, r⟩ := h
  exact ⟨cur, by rw [hc.block _ (lt_of_blk h1) hs]; exact h1, r⟩
theorem KidsAt.chg {w w' : World} {m : Option Nat} {p : Way} {D : List Way} {β : Way → Nat} {S : Nat → Prop} (h : KidsAt w m p D β) (hc : Chg w w' S) (hs : ∀ k, m = some k → ¬ S k) : KidsAt w' m p D β := by
  rcases h with h | ⟨b, Dm, h1, h2, h3⟩
  · exact .inl h
  · exact .inr ⟨b, Dm, h1, map_chg h2 hc (hs b h1), h3⟩
theorem owns_chg {w w' : World} {B e s n : Nat} {v : Value} {xs : List Value} {S : Nat → Prop} (h : w.ownsRow B e s v n xs) (hc : Chg w w' S) (hs : ∀ k, v.ownBlock = some k → ¬ S k) : w'.ownsRow B e s v n xs :=
  owns_same h (fun k hk => hc.block k (h.lt k hk).2 (hs k hk))
theorem Tr.chg {w w' : World} {y : Lay} {D : List Way} {hs : List He} {S : Nat → Prop} (h : Tr w y D hs) (hc : Chg w w' S) (hS : ∀ k, Ft y D hs k → ¬ S k) : Tr w' y D hs :=
  { h with
    nd := fun p hp => (h.nd p hp).chg hc (hS _ (.inl (.inl ⟨p, hp, rfl⟩)))
    row := fun p hp => owns_chg (h.row p hp) hc (fun k hk => hS k (.inl (.inr (.inr ⟨p, hp, hk⟩))))
    kids := fun p hp => (h.kids p hp).chg hc (fun k hk => hS k (.inl (.inr (.inl ⟨p, hp, hk⟩))))
    held := fun x hx => (h.held x hx).chg hc (hS _ (.inr ⟨x, hx, rfl⟩)) }
theorem Tr.below {w w' : World} {y : Lay} {D : List Way} {hs : List He} (h : Tr w y D hs) (hb : Below w.heap.size w w') : Tr w' y D hs :=
  h.chg (Chg.of_below hb (fun _ => False)) (fun _ _ => id)
/-- What kinds of blocks they are. -/
theorem Tr.kβ {w : World} {y : Lay} {D : List Way} {hs : List He} (h : Tr w y D hs) {p : Way} (hp : p ∈ D) : ∃ cur t, w.heap[y.β p]? = some (.cells cur t (0, 0)) ∧ (t = 81 ∨ t = 78) := by
  obtain ⟨cur, h1, _⟩ := h.nd p hp
  refine ⟨cur, _, h1, ?_⟩
  split
  · exact .inl rfl
  · exact .inr rfl
theorem Tr.kρ {w : World} {y : Lay} {D : List Way} {hs : List He} (h : Tr w y D hs) {p : Way} (hp : p ∈ D) {k : Nat} (hk : (y.ρ p).ownBlock = some k) : ∃ cur, w.heap[k]? = some (.cells cur 91 (0, 0)) := owns_kind (h.row p hp) hk
theorem Tr.kμ {w : World} {y : Lay} {D : List Way} {hs : List He} (h : Tr w y D hs) {p : Way} (hp : p ∈ D) {k : Nat} (hk : y.μ p = some k) : ∃ es c, w.heap[k]? = some (.map es c) := by
  rcases h.kids p hp with ⟨h1, _⟩ | ⟨b, Dm, h1, h2, _⟩
  · rw [h1] at hk; cases hk
  · rw [h1] at hk
    cases hk
    obtain ⟨es, c, hb, _⟩ := h2
    exact ⟨es, c, hb⟩
theorem Tr.lt {w : World} {y : Lay} {D : List Way} {hs : List He} (h : Tr w y D hs) {k : Nat} (hk : Ft y D hs k) : k < w.heap.size := by
  rcases hk with (⟨p, hp, rfl⟩ | ⟨p, hp, hk⟩ | ⟨p, hp, hk⟩) | ⟨x, hx, rfl⟩
  · obtain ⟨cur, t, h1, _⟩ := h.kβ hp
    exact lt_of_blk h1
  · obtain ⟨es, c, h1⟩ := h.kμ hp hk
    exact lt_of_blk h1
  · obtain ⟨cur, h1⟩ := h.kρ hp hk
    exact lt_of_blk h1
  · exact lt_of_blk (h.held x hx)
theorem Tr.βρ {w : World} {y : Lay} {D : List Way} {hs : List He} (h : Tr w y D hs) {p q : Way} (hp : p ∈ D) (hq : q ∈ D) {k : Nat} (hk : (y.ρ q).ownBlock = some k) : y.β p ≠ k := by
  obtain ⟨c1, t, h1, ht⟩ := h.kβ hp
  obtain ⟨c2, h2⟩ := h.kρ hq hk
  rintro rfl
  rw [h1] at h2
  simp only [Option.some.injEq, Obj.cells.injEq] at h2
  rcases ht with rfl | rfl
  · exact absurd h2.2.1 (by decide)
  · exact absurd h2.2.1 (by decide)
theorem Tr.βμ {w : World} {y : Lay} {D : List Way} {hs : List He} (h : Tr w y D hs) {p q : Way} (hp : p ∈ D) (hq : q ∈ D) {k : Nat} (hk : y.μ q = some k) : y.β p ≠ k := by
  obtain ⟨c1, t, h1, ht⟩ := h.kβ hp
  obtain ⟨es, c, h2⟩ := h.kμ hq hk
  rintro rfl
  rw [h1] at h2
  cases h2
theorem Tr.ρμ {w : World} {y : Lay} {D : List Way} {hs : List He} (h : Tr w y D hs) {p q : Way} (hp : p ∈ D) (hq : q ∈ D) {k j : Nat} (hk : (y.ρ p).ownBlock = some k) (hj : y.μ q = some j) : k ≠ j := by
  obtain ⟨c1, h1⟩ := h.kρ hp hk
  obtain ⟨es, c, h2⟩ := h.kμ hq hj
  rintro rfl
  rw [h1] at h2
  cases h2
theorem Tr.hβ {w : World} {y : Lay} {D : List Way} {hs : List He} (h : Tr w y D hs) {p : Way} (hp : p ∈ D) {x : He} (hx : HdAt w x) : x.b ≠ y.β p := by
  obtain ⟨c1, t, h1, ht⟩ := h.kβ hp
  unfold HdAt at hx
  intro e
  rw [e, h1] at hx
  simp only [Option.some.injEq, Obj.cells.injEq] at hx
  rcases ht with rfl | rfl
  · exact absurd hx.2.1 (by decide)
  · exact absurd hx.2.1 (by decide)
theorem Tr.hρ {w : World} {y : Lay} {D : List Way} {hs : List He} (h : Tr w y D hs) {p : Way} (hp : p ∈ D) {x : He} (hx : HdAt w x) {k : Nat} (hk : (y.ρ p).ownBlock = some k) : x.b ≠ k := by
  obtain ⟨c1, h1⟩ := h.kρ hp hk
  unfold HdAt at hx
  intro e
  rw [e, h1] at hx
  simp only [Option.some.injEq, Obj.cells.injEq] at hx
  exact absurd hx.2.1 (by decide)
theorem Tr.hμ {w : World} {y : Lay} {D : List Way} {hs : List He} (h : Tr w y D hs) {p : Way} (hp : p ∈ D) {x : He} (hx : HdAt w x) {k : Nat} (hk : y.μ p = some k) : x.b ≠ k := by
  obtain ⟨es, c, h1⟩ := h.kμ hp hk
  unfold HdAt at hx
  intro e
  rw [e, h1] at hx
  cases hx
theorem Tr.hl {w : World} {y : Lay} {D : List Way} {hs : List He} (h : Tr w y D hs) {p : Way} (hp : p ∈ D) : ∃ a c, y.ρ p = .slice a (here hs p).length c ∧ Hl w a c (here hs p) := by
  have hr := h.row p hp
  have hh : ∀ x ∈ here hs p, HdAt w x := fun x hx => h.held x (here_mem.1 hx).1
  rcases hr.2 with ⟨h0, h1⟩ | ⟨g, cap, cur, hv, r⟩
  · refine ⟨none, 0, by rw [h0, h1], ?_, hh⟩
    rw [h1]
    rw [h0, h1] at hr
    exact hr
  · refine ⟨some ⟨g, 0, none⟩, cap, hv, ?_, hh⟩
    rw [hv] at hr
    exact hr
/-- Cells of a node. -/
theorem NdAt.cells {w : World} {y : Lay} {p : Way} (h : NdAt w y p) : w.cell? ⟨y.β p, 0, none⟩ = some (.map (y.μ p)) ∧ w.cell? ⟨y.β p, 1, none⟩ = some (y.ρ p) ∧ (p = [] → w.cell? ⟨y.β p, 2, none⟩ = some y.σ) ∧ ∀ o, w.frozen? ⟨y.β p, o, none⟩ = false := by
  obtain ⟨cur, h1, h2, h3, h4⟩ := h
  refine ⟨?_, ?_, fun e => ?_, fun o => ?_⟩
  · simp [World.cell?, h1, h2]
  · simp [World.cell?, h1, h3]
  · simp [World.cell?, h1, h4 e]
  · simp [World.frozen?, h1]
end Go.Proofs.YtbblckcjedjbcaaGreatDoor
namespace Go.Proofs.YtbblckcjedjbcaaGreatDoor
open Go.RowKit Go.Maps
set_option linter.unusedVariables false
set_option linter.unusedSimpArgs false

/-- A value at one place. -/
def upd {α : Type} (f : Way → α) (p : Way) (x : α) : Way → α := fun q => if q = p then x else f q
theorem upd_same {α : Type} (f : Way → α) (p : Way) (x : α) : upd f p x p = x := by simp [upd]
theorem upd_other {α : Type} (f : Way → α) {p q : Way} (x : α) (h : q ≠ p) : upd f p x q = f q := by simp [upd, h]
theorem NdAt.lay {w : World} {y y' : Lay} {p : Way} (h : NdAt w y p) (h1 : y'.β p = y.β p) (h2 : y'.μ p = y.μ p) (h3 : y'.ρ p = y.ρ p) (h4 : y'.σ = y.σ) : NdAt w y' p := by
  unfold NdAt at *
  rw [h1, h2, h3, h4]
  exact h
/-- A list is another one. -/
theorem Tr.setRow {w w1 : World} {y : Lay} {D : List Way} {hs hs' : List He} (h : Tr w y D hs) {p : Way} (hp : p ∈ D) (v' : Value) (hc : Chg w w1 (fun k => (y.ρ p).ownBlock = some k))
    (ho : w1.ownsRow 0 91 1 v' (here hs' p).length (ptrs (here hs' p))) (ha : ∀ k, v'.ownBlock = some k → (y.ρ p).ownBlock = some k ∨ w.heap.size ≤ k)
    (hoth : ∀ q, q ≠ p → here hs' q = here hs q) (hord : Ord hs') (hheld : ∀ x ∈ hs', HdAt w x) :
    Tr (w1.setCell ⟨y.β p, 1, none⟩ v') { y with ρ := upd y.ρ p v' } D hs' := by
  have hc2 : Chg w1 (w1.setCell ⟨y.β p, 1, none⟩ v') (fun k => k = y.β p) := Chg.set _ _ _
  have hlt : y.β p < w.heap.size := by obtain ⟨c, t, hb, _⟩ := h.kβ hp; exact lt_of_blk hb
  have hρ1 : ∀ q ∈ D, q ≠ p → ∀ k, (y.ρ q).ownBlock = some k → ¬ (y.ρ p).ownBlock = some k := fun q hq hne k hk => h.rap q hq p hp hne k hk
  have hv : ∀ k, v'.ownBlock = some k → k ≠ y.β p := fun k hk e => by
    subst e
    rcases ha _ hk with e | e
    · exact h.βρ hp hp e rfl
    · omega
  refine ⟨hord, h.root, h.up, h.dn, h.sml, h.inj, fun q hq => ?_, fun q hq => ?_, fun q hq r hr hne k => ?_, fun q hq => ?_, h.map, fun x hx => ?_⟩
  · by_cases e : q = p
    · subst e
      obtain ⟨cur, h1, h2, h3, h4⟩ := (h.nd q hp).chg hc (fun e => h.βρ hp hp e rfl)
      have h1s : 1 < cur.size := (Array.getElem?_eq_some_iff.1 h3).1
      refine ⟨cur.setIfInBounds 1 v', heap_setCell_same w1 _ 1 cur _ v' h1, ?_, ?_, fun e => ?_⟩
      · rw [Array.getElem?_setIfInBounds_ne (by decide)]; exact h2
      · rw [Array.getElem?_setIfInBounds_self_of_lt h1s]; simp [upd]
      · rw [Array.getElem?_setIfInBounds_ne (by decide)]; exact h4 e
    · have h1 := ((h.nd q hq).chg hc (fun e => h.βρ hq hp e rfl)).chg hc2 (fun e' => e (h.inj q hq p hp e'))
      exact h1.lay rfl rfl (upd_other _ _ e) rfl
  · by_cases e : q = p
    · subst e
      show (w1.setCell _ _).ownsRow 0 91 1 (upd y.ρ q v' q) _ _
      rw [upd_same]
      exact owns_chg ho hc2 hv
    · show (w1.setCell _ _).ownsRow 0 91 1 (upd y.ρ p v' q) _ _
      rw [upd_other _ _ e, hoth q e]
      exact owns_chg (owns_chg (h.row q hq) hc (hρ1 q hq e)) hc2 (fun k hk e' => h.βρ hp hq hk e'.symm)
  · show (upd y.ρ p v' q).ownBlock = some k → (upd y.ρ p v' r).ownBlock ≠ some k
    by_cases e : q = p
    · subst e
      rw [upd_same, upd_other _ _ (fun e => hne e.symm)]
      intro hk hk'
      rcases ha k hk with e | e
      · exact h.rap q hq r hr hne k e hk'
      · have := ((h.row r hr).lt k hk').2
        omega
    · rw [upd_other _ _ e]
      intro hk
      by_cases e2 : r = p
      · subst e2
        rw [upd_same]
        intro hk'
        rcases ha k hk' with e | e
        · exact h.rap q hq r hr hne k hk e
        · have := ((h.row q hq).lt k hk).2
          omega
      · rw [upd_other _ _ e2]
        exact h.rap q hq r hr hne k hk
  · exact ((h.kids q hq).chg hc (fun k hk e => h.ρμ hp hq e hk rfl)).chg hc2 (fun k hk e => h.βμ hp hq hk e.symm)
  · exact ((hheld x hx).chg hc (fun e => h.hρ hp (hheld x hx) e rfl)).chg hc2 (h.hβ hp (hheld x hx))
/-- A node gets a map. -/
theorem Tr.setMap {w : World} {y : Lay} {D : List Way} {hs : List He} (h : Tr w y D hs) {p : Way} (hp : p ∈ D) (hμ : y.μ p = none) :
    Tr ((w.alloc (.map #[] 0)).setCell ⟨y.β p, 0, none⟩ (.map (some w.heap.size))) { y with μ := upd y.μ p (some w.heap.size) } D hs := by
  have hb : Below w.heap.size w (w.alloc (.map #[] 0)) := (Below.refl _ _).alloc (Nat.le_refl _) _
  have hT := h.below hb
  have hc2 : Chg (w.alloc (.map #[] 0)) ((w.alloc (.map #[] 0)).setCell ⟨y.β p, 0, none⟩ (.map (some w.heap.size))) (fun k => k = y.β p) := Chg.set _ _ _
  have hlt : y.β p < w.heap.size := by obtain ⟨c, t, hb, _⟩ := h.kβ hp; exact lt_of_blk hb
  have hno : ∀ n, p ++ [n] ∉ D := by
    rcases h.kids p hp with ⟨_, h1⟩ | ⟨b, Dm, h1, _⟩
    · exact h1
    · rw [hμ] at h1; cases h1
  refine ⟨h.ord, h.root, h.up, h.dn, h.sml, h.inj, fun q hq => ?_, fun q hq => ?_, h.rap, fun q hq => ?_, fun q hq r hr hne k => ?_, fun x hx => ?_⟩
  · by_cases e : q = p
    · subst e
      obtain ⟨cur, h1, h2, h3, h4⟩ := hT.nd q hp
      have h1s : 0 < cur.size := (Array.getElem?_eq_some_iff.1 h2).1
      refine ⟨cur.setIfInBounds 0 (.map (some w.heap.size)), heap_setCell_same _ _ 0 cur _ _ h1, ?_, ?_, fun e => ?_⟩
      · rw [Array.getElem?_setIfInBounds_self_of_lt h1s]; simp [upd]
      · rw [Array.getElem?_setIfInBounds_ne (by decide)]; exact h3
      · rw [Array.getElem?_setIfInBounds_ne (by decide)]; exact h4 e
    · exact ((hT.nd q hq).chg hc2 (fun e' => e (h.inj q hq p hp e'))).lay rfl (upd_other _ _ e) rfl rfl
  · exact owns_chg (hT.row q hq) hc2 (fun k hk e' => h.βρ hp hq hk e'.symm)
  · show KidsAt _ (upd y.μ p (some w.heap.size) q) q D y.β
    by_cases e : q = p
    · subst e
      rw [upd_same]
      refine .inr ⟨w.heap.size, .map [], rfl, ?_, Maps.tidy_empty, ⟨[], rfl, fun p hp => by cases hp⟩, fun n => ?_, fun n z hn => absurd hn (hno n)⟩
      · exact map_chg (World.ownsMap_made w _ 9 raw) hc2 (by omega)
      · constructor
        · intro h; cases h
        · intro h; exact absurd h (hno n)
    · rw [upd_other _ _ e]
      exact (hT.kids q hq).chg hc2 (fun k hk e => h.βμ hp hq hk e.symm)
  · show upd y.μ p (some w.heap.size) q = some k → upd y.μ p (some w.heap.size) r ≠ some k
    have hlm : ∀ q ∈ D, y.μ q ≠ some w.heap.size := fun q hq e => by
      obtain ⟨es, c, hb⟩ := h.kμ hq e
      exact Nat.lt_irrefl _ (lt_of_blk hb)
    by_cases e : q = p
    · subst e
      rw [upd_same, upd_other _ _ (fun e => hne e.symm)]
      intro hk
      cases hk
      exact hlm r hr
    · rw [upd_other _ _ e]
      intro hk
      by_cases e2 : r = p
      · subst e2
        rw [upd_same]
        intro hk'
        cases hk'
        exact hlm q hq hk
      · rw [upd_other _ _ e2]
        exact h.map q hq r hr hne k hk
  · exact (hT.held x hx).chg hc2 (h.hβ hp (h.held x hx))
/-- A new node. -/
theorem Tr.newKid {w w3 : World} {y : Lay} {D : List Way} {hs : List He} (h : Tr w y D hs) {p : Way} (hp : p ∈ D) {n : ByteArray} (hn : p ++ [n] ∉ D) (hns : n.size ≤ 1000) {mb nb : Nat} {Dm : DataW Value} (hμ : y.μ p = some mb) (hkr : KR Dm p D y.β)
    (hnew : w.heap.size ≤ nb) (hnb : w3.heap[nb]? = some (.cells #[.map none, .slice none 0 0] 78 (0, 0))) (hc : Chg w w3 (fun k => k = mb)) (hm : MapAt w3 mb (Maps.size (Dm.put (ky n) (.held (ndV nb)))) (Dm.put (ky n) (.held (ndV nb))))
    (hway : ∀ x ∈ hs, x.way ∈ D) :
    Tr w3 { y with β := upd y.β (p ++ [n]) nb, μ := upd y.μ (p ++ [n]) none, ρ := upd y.ρ (p ++ [n]) (.slice none 0 0) } (D ++ [p ++ [n]]) hs := by
  have hne : ∀ q ∈ D, q ≠ p ++ [n] := fun q hq e => hn (e ▸ hq)
  have hnr : p ++ [n] ≠ [] := by simp
  have hβlt : ∀ q ∈ D, y.β q < w.heap.size := fun q hq => by obtain ⟨c, t, hb, _⟩ := h.kβ hq; exact lt_of_blk hb
  have hmem : ∀ q, q ∈ D ++ [p ++ [n]] ↔ q ∈ D ∨ q = p ++ [n] := fun q => by simp
  have hhere : here hs (p ++ [n]) = [] := by
    unfold here
    rw [List.filter_eq_nil_iff]
    intro x hx e
    have e' : x.way = p ++ [n] := by simpa using e
    exact hn (e' ▸ hway x hx)
  refine ⟨h.ord, (hmem _).2 (.inl h.root), fun q m hq => ?_, ?_, fun q hq => ?_, fun q hq r hr => ?_, fun q hq => ?_, fun q hq => ?_, fun q hq r hr hqr k => ?_, fun q hq => ?_, fun q hq r hr hqr k => ?_, fun x hx => ?_⟩
  · rcases (hmem _).1 hq with hq | hq
    · exact (hmem _).2 (.inl (h.up q m hq))
    · obtain ⟨rfl, _⟩ := List.append_inj' hq rfl
      exact (hmem _).2 (.inl hp)
  · rw [List.nodup_append]
    refine ⟨h.dn, by simp, fun a ha b hb e => ?_⟩
    have : b = p ++ [n] := by simpa using hb
    exact hne a ha (e.trans this)
  · rcases (hmem _).1 hq with hq | rfl
    · exact h.sml q hq
    · intro m hm'
      rcases List.mem_append.1 hm' with h1 | h1
      · exact h.sml p hp m h1
      · have : m = n := by simpa using h1
        rw [this]; exact hns
  · show upd y.β (p ++ [n]) nb q = upd y.β (p ++ [n]) nb r → q = r
    rcases (hmem _).1 hq with hq | rfl
    · rw [upd_other _ _ (hne q hq)]
      rcases (hmem _).1 hr with hr | rfl
      · rw [upd_other _ _ (hne r hr)]
        exact h.inj q hq r hr
      · rw [upd_same]
        intro e
        have := hβlt q hq
        omega
    · rw [upd_same]
      rcases (hmem _).1 hr with hr | rfl
      · rw [upd_other _ _ (hne r hr)]
        intro e
        have := hβlt r hr
        omega
      · intro _; rfl
  · rcases (hmem _).1 hq with hq | rfl
    · exact ((h.nd q hq).chg hc (fun e => h.βμ hq hp hμ e)).lay (upd_other _ _ (hne q hq)) (upd_other _ _ (hne q hq)) (upd_other _ _ (hne q hq)) rfl
    · refine ⟨#[.map none, .slice none 0 0], ?_, ?_, ?_, fun e => absurd e hnr⟩
      · show w3.heap[upd y.β (p ++ [n]) nb (p ++ [n])]? = _
        rw [upd_same, if_neg hnr]
        exact hnb
      · simp [upd]
      · simp [upd]
  · show w3.ownsRow 0 91 1 (upd y.ρ (p ++ [n]) (.slice none 0 0) q) _ _
    rcases (hmem _).1 hq with hq | rfl
    · rw [upd_other _ _ (hne q hq)]
      exact owns_chg (h.row q hq) hc (fun k hk e => h.ρμ hq hp hk hμ e)
    · rw [upd_same, hhere]
      exact World.ownsRow_nil _ _ _ _
  · show (upd y.ρ (p ++ [n]) (.slice none 0 0) q).ownBlock = some k → (upd y.ρ (p ++ [n]) (.slice none 0 0) r).ownBlock ≠ some k
    rcases (hmem _).1 hq with hq | rfl
    · rw [upd_other _ _ (hne q hq)]
      rcases (hmem _).1 hr with hr | rfl
      · rw [upd_other _ _ (hne r hr)]
        exact h.rap q hq r hr hqr k
      · rw [upd_same]
        intro _ e
        cases e
    · rw [upd_same]
      intro e
      cases e
  · show KidsAt w3 (upd y.μ (p ++ [n]) none q) q (D ++ [p ++ [n]]) (upd y.β (p ++ [n]) nb)
    rcases (hmem _).1 hq with hq | rfl
    · rw [upd_other _ _ (hne q hq)]
      by_cases e : q = p
      · subst e
        rw [hμ]
        refine .inr ⟨mb, _, rfl, hm, hkr.tidy.put (kyX_lit _) _, hkr.str.put _ _, fun m => ?_, fun m z hm' => ?_⟩
        · rw [hmem]
          by_cases e : m = n
          · subst e
            rw [Maps.has_put_same hkr.str.isMap (kyX_lit _)]
            simp
          · rw [Maps.has_put_other (fun e' => e (kyX_inj e')), hkr.has m]
            constructor
            · exact .inl
            · rintro (h1 | h1)
              · exact h1
              · exact absurd (by simpa using h1) e
        · by_cases e : m = n
          · subst e
            rw [upd_same]
            exact Maps.atKey_put_same hkr.str.isMap (kyX_lit _) _ _
          · have hm2 : q ++ [m] ∈ D := by
              rcases (hmem _).1 hm' with h1 | h1
              · exact h1
              · exact absurd (by simpa using h1) e
            rw [Maps.atKey_put_other (fun e' => e (kyX_inj e')), upd_other _ _ (hne _ hm2)]
            exact hkr.look m z hm2
      · rcases h.kids q hq with ⟨h1, h2⟩ | ⟨b, Dq, h1, h2, h3⟩
        · refine .inl ⟨h1, fun m hm' => ?_⟩
          rcases (hmem _).1 hm' with h4 | h4
          · exact h2 m h4
          · exact e (List.append_inj' h4 rfl).1
        · refine .inr ⟨b, Dq, h1, map_chg h2 hc (fun e' => h.map q hq p hp e b h1 (by rw [e']; exact hμ)), h3.tidy, h3.str, fun m => ?_, fun m z hm' => ?_⟩
          · rw [h3.has m, hmem]
            constructor
            · exact .inl
            · rintro (h4 | h4)
              · exact h4
              · exact absurd (List.append_inj' h4 rfl).1 e
          · have hm2 : q ++ [m] ∈ D := by
              rcases (hmem _).1 hm' with h4 | h4
              · exact h4
              · exact absurd (List.append_inj' h4 rfl).1 e
            rw [upd_other _ _ (hne _ hm2)]
            exact h3.look m z hm2
    · rw [upd_same]
      refine .inl ⟨rfl, fun m hm' => ?_⟩
      rcases (hmem _).1 hm' with h4 | h4
      · exact hn (h.up _ m h4)
      · have := congrArg List.length h4
        simp at this
  · show upd y.μ (p ++ [n]) none q = some k → upd y.μ (p ++ [n]) none r ≠ some k
    rcases (hmem _).1 hq with hq | rfl
    · rw [upd_other _ _ (hne q hq)]
      rcases (hmem _).1 hr with hr | rfl
      · rw [upd_other _ _ (hne r hr)]
        exact h.map q hq r hr hqr k
      · rw [upd_same]
        intro _ e
        cases e
    · rw [upd_same]
      intro e
      cases e
  · exact (h.held x hx).chg hc (h.hμ hp (h.held x hx) hμ)
end Go.Proofs.YtbblckcjedjbcaaGreatDoor
namespace Go.Proofs.YtbblckcjedjbcaaGreatDoor
open Go.RowKit Go.Maps Go.WideShapes
set_option linter.unusedVariables false
set_option linter.unusedSimpArgs false

theorem zeroNd (w : World) : (zeroValue 120).run Tryz.prog w = .ok (.pointer none) w := by kernel_rfl
theorem keyS {n : ByteArray} (h : n.size ≤ 1000) : keyOf Tryz.prog 9 (.string n) = some (ky n) := WideMaps.keyOf_string_mk Tryz.underlying9 (by unfold maxLen; omega)
theorem chgTurned {w w' : World} {b : Nat} (h : w.mapTurned w' b) : Chg w w' (fun j => j = b) := by
  have g := h.grown
  exact ⟨g.os, g.tape, g.output, g.size, fun i h1 hi => g.block i h1 (fun e => hi (by cases e; rfl))⟩
theorem tightX {P : Program} {w : World} {b n : Nat} {t : TypeId} {D : DataW Value} (h : w.ownsMap P t raw b n D) : w.ownsMap P t raw b (Maps.size D) D := by
  obtain ⟨es, clock, hb, F, hs, rfl⟩ := h
  exact ⟨es, clock, hb, F, by simp [Maps.size, length_sorted], rfl⟩
/-- Whether a node is there. -/
def inD (D : List Way) (q : Way) : Bool := D.any (fun r => decide (r = q))
theorem inD_iff {D : List Way} {q : Way} : inD D q = true ↔ q ∈ D := by
  unfold inD
  rw [List.any_eq_true]
  simp
theorem inD_not {D : List Way} {q : Way} (h : q ∉ D) : inD D q = false := by
  rw [Bool.eq_false_iff]
  exact fun e => h (inD_iff.1 e)
/-- What a look-up gives. -/
def kidV (p : Way) (D : List Way) (β : Way → Nat) (n : ByteArray) : Value := if inD D (p ++ [n]) then ndV (β (p ++ [n])) else .pointer none
theorem KR.at {Dm : DataW Value} {p : Way} {D : List Way} {β : Way → Nat} (h : KR Dm p D β) (n : ByteArray) {v : Value} {ps : List MemPlace} (hv : raw v = some (Dm.atKey (ky n) (.held (.pointer none)), ps)) : v = kidV p D β n := by
  unfold kidV
  by_cases hn : p ++ [n] ∈ D
  · rw [if_pos (inD_iff.2 hn)]
    rw [h.look n _ hn] at hv
    exact raw_inv hv
  · rw [if_neg (by rw [inD_not hn]; decide)]
    rw [Maps.atKey_of_not_has (by
      rw [Bool.eq_false_iff]
      intro e
      exact hn ((h.has n).1 e))] at hv
    exact raw_inv hv
theorem KR.hasB {Dm : DataW Value} {p : Way} {D : List Way} {β : Way → Nat} (h : KR Dm p D β) (n : ByteArray) : Maps.has Dm (ky n) = inD D (p ++ [n]) := by
  rw [Bool.eq_iff_iff, h.has n, inD_iff]
theorem KidsAt.look {w : World} {m : Option Nat} {p : Way} {D : List Way} {β : Way → Nat} (h : KidsAt w m p D β) {n : ByteArray} (hn : n.size ≤ 1000) : (Instr.lookup 74 (.map m) (.string n) true).run Tryz.prog w = .ok (.tuple #[kidV p D β n, .bool (inD D (p ++ [n]))]) w := by
  rcases h with ⟨rfl, h2⟩ | ⟨b, Dm, rfl, h2, h3⟩
  · rw [Maps.look_nil true keyed Tryz.underlying74 (zeroNd w) (keyS hn)]
    unfold kidV
    rw [inD_not (h2 n)]
    rfl
  · obtain ⟨v, ps, hrun, hv⟩ := h2.look_ok keyed Tryz.underlying74 (zeroNd w) (zd := .held (.pointer none)) (zp := []) rfl (keyS hn)
    rw [hrun, h3.hasB, h3.at n hv]
theorem KidsAt.get {w : World} {m : Option Nat} {p : Way} {D : List Way} {β : Way → Nat} (h : KidsAt w m p D β) {n : ByteArray} (hn : n.size ≤ 1000) : (Instr.lookup 74 (.map m) (.string n) false).run Tryz.prog w = .ok (kidV p D β n) w := by
  rcases h with ⟨rfl, h2⟩ | ⟨b, Dm, rfl, h2, h3⟩
  · rw [Maps.look_nil false keyed Tryz.underlying74 (zeroNd w) (keyS hn)]
    unfold kidV
    rw [inD_not (h2 n)]
    rfl
  · obtain ⟨v, ps, hrun, hv⟩ := h2.lookup keyed Tryz.underlying74 (zeroNd w) (zd := .held (.pointer none)) (zp := []) rfl (keyS hn)
    rw [hrun, h3.at n hv]
/-- A kid more in the map. -/
theorem kids_put {w : World} {b : Nat} {Dm : DataW Value} (h : MapAt w b (Maps.size Dm) Dm) (hsz : Maps.size Dm ≤ 1000000) {n : ByteArray} (hn : n.size ≤ 1000) (nb : Nat) :
    ∃ w', (Instr.mapUpdate 74 (.map (some b)) (.string n) (ndV nb)).run Tryz.prog w = .ok () w' ∧ MapAt w' b (Maps.size (Dm.put (ky n) (.held (ndV nb)))) (Dm.put (ky n) (.held (ndV nb))) ∧ Chg w w' (fun k => k = b) := by
  obtain ⟨w', hrun, ho, ht'⟩ := h.store keyed Tryz.underlying74 (by unfold maxLen; omega) (keyS hn) (val := ndV nb) (d := .held (ndV nb)) (ps := []) rfl
  exact ⟨w', hrun, tightX ho, chgTurned ht'⟩
theorem kids_del {w : World} {b : Nat} {Dm : DataW Value} (h : MapAt w b (Maps.size Dm) Dm) {n : ByteArray} (hn : n.size ≤ 1000) (ty : TypeId) :
    ∃ w', (Builtin.delete_ #[74, 9] ty #[.map (some b), .string n]).run Tryz.prog w = .ok (.tuple #[]) w' ∧ MapAt w' b (Maps.size (Dm.del (ky n))) (Dm.del (ky n)) ∧ Chg w w' (fun k => k = b) := by
  obtain ⟨w', hrun, ho, ht'⟩ := h.drop keyed Tryz.underlying74 (keyS hn) ty
  exact ⟨w', hrun, tightX ho, chgTurned ht'⟩
/-- The last name of a way, if the others are p. -/
def lastOf (p q : Way) : Option ByteArray := match q.getLast? with | some n => if q = p ++ [n] then some n else none | none => none
theorem lastOf_iff {p q : Way} {n : ByteArray} : lastOf p q = some n ↔ q = p ++ [n] := by
  unfold lastOf
  constructor
  · intro h
    split at h
    · split at h
      · rename_i e
        cases h
        exact e
      · cases h
    · cases h
  · rintro rfl
    simp
/-- The names of the kids of a place. -/
def kidsOf (D : List Way) (p : Way) : List ByteArray := D.filterMap (lastOf p)
theorem kids_mem {D : List Way} {p : Way} {n : ByteArray} : n ∈ kidsOf D p ↔ p ++ [n] ∈ D := by
  unfold kidsOf
  rw [List.mem_filterMap]
  constructor
  · rintro ⟨q, hq, h⟩
    rw [lastOf_iff.1 h] at hq
    exact hq
  · intro h
    exact ⟨_, h, lastOf_iff.2 rfl⟩
theorem kids_nodup {D : List Way} (h : D.Nodup) (p : Way) : (kidsOf D p).Nodup := by
  unfold kidsOf
  induction D with
  | nil => exact List.nodup_nil
  | cons a r ih =>
    obtain ⟨h1, h2⟩ := List.nodup_cons.1 h
    rw [List.filterMap_cons]
    cases e : lastOf p a with
    | none => exact ih h2
    | some n =>
      refine List.nodup_cons.2 ⟨fun hm => ?_, ih h2⟩
      have := kids_mem.1 hm
      rw [← lastOf_iff.1 e] at this
      exact h1 this
theorem kids_len (D : List Way) (p : Way) : (kidsOf D p).length ≤ D.length := List.length_filterMap_le _ _
theorem KR.keys {Dm : DataW Value} {p : Way} {D : List Way} {β : Way → Nat} (h : KR Dm p D β) (hd : D.Nodup) : ((kidsOf D p).map (fun n => n.data.toList)).Perm (strKeys Dm) := by
  obtain ⟨es, rfl, hs⟩ := h.str
  obtain ⟨es', e, hp⟩ := h.tidy
  obtain rfl : es = es' := by simpa using e
  refine perm_strKeys hp hs ?_ (fun l => ?_)
  · exact List.Pairwise.map _ (fun a b hab e => hab (ByteArray.ext (Array.ext' e))) (kids_nodup hd p)
  · have h1 := h.has ⟨l.toArray⟩
    have e : ky ⟨l.toArray⟩ = .string l := by simp [ky]
    rw [e] at h1
    rw [h1, ← kids_mem]
    constructor
    · intro hl
      obtain ⟨x, hx, rfl⟩ := List.mem_map.1 hl
      have : (⟨x.data.toList.toArray⟩ : ByteArray) = x := ByteArray.ext (by simp)
      rw [this]
      exact hx
    · intro hx
      exact List.mem_map.2 ⟨_, hx, by simp⟩
theorem sizeKeys {H : Type} (D : DataW H) : (strKeys D).length = Maps.size D := by
  cases D <;> simp [strKeys, Maps.size]
theorem KR.size {Dm : DataW Value} {p : Way} {D : List Way} {β : Way → Nat} (h : KR Dm p D β) (hd : D.Nodup) : Maps.size Dm = (kidsOf D p).length := by
  rw [← sizeKeys, ← (h.keys hd).length_eq, List.length_map]
theorem eqMapNil (w : World) (mb : Nat) (n : Nat) : (Op.equalIn (n + 1) 74 (.map (some mb)) (.map none)).run Tryz.prog w = .ok false w := by
  simp [Op.equalIn, run_underlying Tryz.underlying74]
theorem eqlMapNil (w : World) (mb : Nat) : (binOp .eql 74 (.map (some mb)) (.map none)).run Tryz.prog w = .ok (.bool false) w := by
  simp only [binOp]
  simp [Op.equal, Op.maxDepth, eqMapNil]
theorem eqNilNil (w : World) (n : Nat) : (Op.equalIn (n + 1) 74 (.map none) (.map none)).run Tryz.prog w = .ok true w := by
  simp [Op.equalIn, run_underlying Tryz.underlying74]
theorem eqlNilNil (w : World) : (binOp .eql 74 (.map none) (.map none)).run Tryz.prog w = .ok (.bool true) w := by
  simp only [binOp]
  simp [Op.equal, Op.maxDepth, eqNilNil]
end Go.Proofs.YtbblckcjedjbcaaGreatDoor
