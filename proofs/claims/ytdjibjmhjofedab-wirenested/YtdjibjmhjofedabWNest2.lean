/-
  WireNested: lists of bytes; what the law's own calls answer.
-/
import Derived.Test.YtdjibjmhjofedabWNest1
import Derived.Test.YtdjibjmhjofedabWSays
import Derived.Test.YtdjibjmhjofedabWPieces
namespace Go.Proofs.Ytdjibjmhjofedab
open Go.RowKit
set_option linter.unusedVariables false

/-- A list of bytes that may be handed in. -/
structure Bl (w : World) (a : Option Addr) (c : Nat) (zs : List Int) : Prop where
  bys : Bys w a zs
  byt : Byt zs
  le : zs.length ≤ c
  max : c ≤ maxLen
  nil : a = none → c = 0

theorem Bl.below {w w' : World} {a : Option Addr} {c : Nat} {zs : List Int} (h : Bl w a c zs) (hb : Below w.heap.size w w') : Bl w' a c zs := ⟨h.bys.below hb, h.byt, h.le, h.max, h.nil⟩
theorem Bl.drew {w : World} {a : Option Addr} {c : Nat} {zs : List Int} (h : Bl w a c zs) : Bl w.drew a c zs := ⟨Bys.drew h.bys, h.byt, h.le, h.max, h.nil⟩
theorem bl_of_row {w : World} {base n c : Nat} {a : Option Addr} {zs : List Int} (h : w.ownsRow base 5 1 (.slice a n c) n (bv zs)) (hb : Byt zs) : n = zs.length ∧ Bl w a c zs := by
  obtain ⟨a', c', hv, h1, h2, h3, h4, h5⟩ := bys_of_owns h
  simp only [Value.slice.injEq] at hv
  obtain ⟨rfl, -, rfl⟩ := hv
  exact ⟨h3, h1, hb, h4, h5, h2⟩

theorem joined_bl (a : Option Addr) (c : Nat) (ps : List Pc) (hk : ps.length ≤ 24) (hm : (bodyOf ps).length ≤ 20000) (w : World) (h : Pcs w a ps) :
    Calls Try.prog 20 #[.slice a ps.length c] w fun e w' => ∃ a' c', e = .returned (.slice a' (bodyOf ps).length c') ∧ Bl w' a' c' (bodyOf ps) ∧ Below w.heap.size w w' := by
  refine (joined_any a c ps w h (by omega) (by omega)).mono ?_
  rintro e w' ⟨a', c', rfl, hr, hb⟩
  exact ⟨a', c', rfl, (bl_of_row hr (body_byt h)).2, hb⟩

theorem pair_pcs {w : World} {a1 a2 : Option Addr} {c1 c2 : Nat} {y z : List Int} (h1 : Bl w a1 c1 y) (h2 : Bl w a2 c2 z) :
    Pcs (w.alloc (.cells #[.slice a1 y.length c1, .slice a2 z.length c2] 22)) (some ⟨w.heap.size, 0, none⟩) [(a1, c1, y), (a2, c2, z)] := by
  have al : Below w.heap.size w (w.alloc (.cells #[.slice a1 y.length c1, .slice a2 z.length c2] 22)) := (Below.refl _ _).alloc (Nat.le_refl _) _
  refine ⟨.inr ⟨w.heap.size, 0, rfl, by simp, fun j p hp => ?_⟩, fun p hp => ?_⟩
  · have h := cell_two_new w (.slice a1 y.length c1) (.slice a2 z.length c2) 22 j p.val (by
      match j, hp with
      | 0, h => simp at h; subst h; rfl
      | 1, h => simp at h; subst h; rfl
      | j + 2, h => simp at h)
    rw [addr_add] at h
    exact h
  · simp only [List.mem_cons, List.not_mem_nil, or_false] at hp
    rcases hp with rfl | rfl
    · exact ⟨h1.bys.below al, h1.byt, h1.nil⟩
    · exact ⟨h2.bys.below al, h2.byt, h2.nil⟩
theorem pair_body (a1 a2 : Option Addr) (c1 c2 : Nat) (y z : List Int) : bodyOf [(a1, c1, y), (a2, c2, z)] = y ++ z := by simp [bodyOf]

theorem pair_joined {w : World} {a1 a2 : Option Addr} {c1 c2 : Nat} {y z : List Int} (h1 : Bl w a1 c1 y) (h2 : Bl w a2 c2 z) (hl : (y ++ z).length ≤ 100000) (c : Nat) :
    Calls Try.prog 20 #[.slice (some ⟨w.heap.size, 0, none⟩) 2 c] (w.alloc (.cells #[.slice a1 y.length c1, .slice a2 z.length c2] 22)) fun e w' => ∃ a' c', e = .returned (.slice a' (y ++ z).length c') ∧ Bl w' a' c' (y ++ z) ∧ Below w.heap.size w w' := by
  have al : Below w.heap.size w (w.alloc (.cells #[.slice a1 y.length c1, .slice a2 z.length c2] 22)) := (Below.refl _ _).alloc (Nat.le_refl _) _
  have h := joined_any _ c _ _ (pair_pcs h1 h2) (by simp) (by rw [pair_body]; omega)
  rw [pair_body] at h
  refine h.mono ?_
  rintro e w' ⟨a', c', rfl, hr, hb⟩
  refine ⟨a', c', rfl, (bl_of_row hr ?_).2, trans2 al hb⟩
  intro v hv
  rcases List.mem_append.1 hv with g | g
  · exact h1.byt v g
  · exact h2.byt v g

/-- What bytes say, as it lies in memory: so many bodies, each with its bytes. -/
structure Sd (w : World) (l : Value) (gs : List (Value × List Int)) : Prop where
  row : w.ownsRow 0 22 1 l gs.length (gs.map (·.1))
  each : ∀ p ∈ gs, w.ownsRow 0 5 1 p.1 p.2.length (bv p.2)
theorem Sd.below {w w' : World} {l : Value} {gs : List (Value × List Int)} (h : Sd w l gs) (hb : Below w.heap.size w w') : Sd w' l gs :=
  ⟨owns_fr h.row (Fr.of_below hb (fun _ => False)) (fun _ _ h => h), fun p hp => owns_fr (h.each p hp) (Fr.of_below hb (fun _ => False)) (fun _ _ h => h)⟩
theorem owns_any {w : World} {base n : Nat} {e : TypeId} {v : Value} {vals : List Value} (h : w.ownsRow base e 1 v n vals) : w.ownsRow 0 e 1 v n vals :=
  ⟨h.1, h.2.imp id (fun ⟨g, cap, cur, a, b, c⟩ => ⟨g, cap, cur, a, Nat.zero_le _, c⟩)⟩

theorem says_bl {w : World} {a : Option Addr} {c : Nat} {xs : List Int} (h : Bl w a c xs) (hm : xs.length ≤ 900000) :
    Calls Try.prog 30 #[.slice a xs.length c] w fun e w' => ∃ (la : Option Addr) (lc : Nat) (gs : List (Value × List Int)), e = .returned (.tuple #[.slice la gs.length lc, .int .i64 ((dec xs).2.1 : Nat)]) ∧ gs.map (·.2) = (dec xs).1 ∧ Sd w' (.slice la gs.length lc) gs ∧ Below w.heap.size w w' := by
  refine (says_any a c xs w h.bys h.byt h.le h.max hm).mono ?_
  rintro e w' ⟨l, gs, rfl, h1, h2, h3, h4⟩
  rcases h2.2 with ⟨rfl, h0⟩ | ⟨g, cap, cur, rfl, h5⟩
  · have hg : gs = [] := List.eq_nil_of_length_eq_zero h0
    subst hg
    exact ⟨none, 0, [], rfl, h1, ⟨owns_any h2, fun p hp => owns_any (h3 p hp)⟩, h4⟩
  · exact ⟨_, _, gs, rfl, h1, ⟨owns_any h2, fun p hp => owns_any (h3 p hp)⟩, h4⟩

/-- The k-th of them, where it is read. -/
theorem Sd.at {w : World} {la : Option Addr} {lc n : Nat} {gs : List (Value × List Int)} (h : Sd w (.slice la n lc) gs) {k : Nat} {p : Value × List Int} (hp : gs[k]? = some p) : ∃ g a c, la = some ⟨g, 0, none⟩ ∧ w.cell? ⟨g, k, none⟩ = some (.slice a p.2.length c) ∧ Bys w a p.2 := by
  have hk : k < gs.length := (List.getElem?_eq_some_iff.1 hp).1
  obtain ⟨a, c, hv, hb, _⟩ := bys_of_owns (h.each p (List.mem_of_getElem? hp))
  rcases h.row.2 with ⟨_, h0⟩ | ⟨g, cap, cur, hl, _, hg, _, _, _, ht⟩
  · omega
  · simp only [Value.slice.injEq] at hl
    refine ⟨g, a, c, hl.1, ?_, hb⟩
    rw [cell_blk hg, ← Array.getElem?_toList, ← hv]
    have h2 : (cur.toList.take (gs.length * 1))[k]? = some p.1 := by rw [ht, List.getElem?_map, hp]; rfl
    rwa [List.getElem?_take, if_pos (by omega)] at h2

theorem same_bl {w : World} {a b : Option Addr} {c d n : Nat} {xs : List Int} (hx : w.ownsRow 0 5 1 (.slice a n c) xs.length (bv xs)) (hy : Bys w b xs) :
    Calls Try.prog 12 #[.slice a n c, .slice b xs.length d] w fun e w' => e = .returned (.bool true) ∧ ∃ m, w' = w.drewN m := by
  obtain ⟨a', c', hv, h1, _, h3, h4, h5⟩ := bys_of_owns hx
  simp only [Value.slice.injEq] at hv
  obtain ⟨rfl, rfl, rfl⟩ := hv
  refine (same_any a b c d xs xs w h1 hy (by omega)).mono ?_
  rintro e w' ⟨rfl, h⟩
  exact ⟨by simp, h⟩

theorem undrew {w w' : World} (h : Below w.drew.heap.size w.drew w') : Below w.heap.size w w' := ⟨h.os, h.tape, h.output, h.size, h.block⟩
theorem keeps_below {w w' : World} (h : Below w.heap.size w w') : KeepsOthers w w' := (Fr.of_below h (fun _ => False)).keeps (fun _ _ e => e.elim)

theorem dec_more (P R : List Int) {m : Nat} {xs : List Int} (h : (dec P).1[m]? = some xs) : (dec (P ++ R)).1[m]? = some xs := by
  obtain ⟨_, e2, _⟩ := dec_fed P R
  rw [e2, List.getElem?_append_left (List.getElem?_eq_some_iff.1 h).1]
  exact h
end Go.Proofs.Ytdjibjmhjofedab
