/-
  line: own.go: two lines and the book.
-/
import Derived.Test.YtfcobhgjkibdgaaLOwC
import Derived.Test.YtfcobhgjkibdgaaLOnly
namespace Go.Proofs.Ytfcobhgjkibdgaa
open Go.RowKit Go.Maps
set_option linter.unusedVariables false
set_option linter.unusedSimpArgs false

theorem AtL.kind {w : World} {K : Nat → Prop} {L : LnT} {p : Value} (h : AtL w K L p) {j : Nat} {cur : Array Value} {t : TypeId} (hj : K j) (hb : w.heap[j]? = some (.cells cur t (0, 0))) : t = 64 := by
  rcases h with ⟨_, _, h⟩ | ⟨b, mo, Km, rfl, hno, hb', hF, hK⟩
  · exact absurd hj (h j)
  · rcases (hK j).1 hj with rfl | hj
    · rw [hb'] at hb; cases hb; rfl
    · exact absurd hb (FlM.sort hF j _ _ hj)
theorem row_at {w w' : World} {K K' : Nat → Prop} {L L' : LnT} {p v : Value} {B e s n : Nat} {xs : List Value} (h : AtL w K L p) (hE : LnE AtL w K L' p w' K') (hr : w.ownsRow B e s v n xs) (he : e ≠ 64) : w'.ownsRow B e s v n xs :=
  row_chg hr hE.chg (fun j hj hk => by obtain ⟨cur, hc⟩ := row_kind hr j hj; exact he (h.kind hk hc))
theorem BkE.call {w w' : World} {K K' : Nat → Prop} {L L' : LnT} {p : Value} {b : BkT} (hb : BkE w b) (h : AtL w K L p) (hE : LnE AtL w K L' p w' K') : BkE w' b :=
  ⟨row_at h hE hb.l (by decide), row_at h hE hb.g (by decide)⟩
/-- Two lines and the book. -/
structure Md (w0 w : World) (Ka Kb K1 K2 : Nat → Prop) (L1 L2 : LnT) (p1 p2 bv : Value) (bk : List BkT) : Prop where
  chg : Chg w0 w (fun j => Ka j ∨ Kb j)
  at1 : AtL w K1 L1 p1
  at2 : AtL w K2 L2 p2
  new1 : ∀ j, K1 j → Ka j ∨ w0.heap.size ≤ j
  new2 : ∀ j, K2 j → Kb j ∨ w0.heap.size ≤ j
  apart : ∀ j, K1 j → ¬ K2 j
  row : BkRow w w0.heap.size bv bk
  each : ∀ b ∈ bk, BkE w b
  small : ∀ b ∈ bk, b.Sm
theorem Md.below {w0 w w' : World} {Ka Kb K1 K2 : Nat → Prop} {L1 L2 : LnT} {p1 p2 bv : Value} {bk : List BkT} (h : Md w0 w Ka Kb K1 K2 L1 L2 p1 p2 bv bk) (hb : Below w.heap.size w w') : Md w0 w' Ka Kb K1 K2 L1 L2 p1 p2 bv bk :=
  ⟨h.chg.trans (Chg.of_below hb _), h.at1.keep (Kp.of_below hb _), h.at2.keep (Kp.of_below hb _), h.new1, h.new2, h.apart, owns_below h.row hb, fun b hbk => (h.each b hbk).keep (Kp.of_below hb _), h.small⟩
theorem Md.line1 {w0 w w' : World} {Ka Kb K1 K2 K1' : Nat → Prop} {L1 L2 L1' : LnT} {p1 p2 bv : Value} {bk : List BkT} (h : Md w0 w Ka Kb K1 K2 L1 L2 p1 p2 bv bk) (hE : LnE AtL w K1 L1' p1 w' K1') : Md w0 w' Ka Kb K1' K2 L1' L2 p1 p2 bv bk := by
  refine ⟨chg_kn h.chg hE.chg (fun j hj => (h.new1 j hj).imp .inl id), hE.at', h.at2.keep (Kp.of_chg hE.chg (fun j _ h2 h1 => h.apart j h1 h2)), fun j hj => ?_, h.new2, fun j hj h2 => ?_, row_at h.at1 hE h.row (by decide), fun b hb => (h.each b hb).call h.at1 hE, h.small⟩
  · rcases hE.new j hj with h1 | h1
    · exact h.new1 j h1
    · exact .inr (Nat.le_trans h.chg.size h1)
  · rcases hE.new j hj with h1 | h1
    · exact h.apart j h1 h2
    · have := h.at2.lt j h2
      omega
theorem Md.line2 {w0 w w' : World} {Ka Kb K1 K2 K2' : Nat → Prop} {L1 L2 L2' : LnT} {p1 p2 bv : Value} {bk : List BkT} (h : Md w0 w Ka Kb K1 K2 L1 L2 p1 p2 bv bk) (hE : LnE AtL w K2 L2' p2 w' K2') : Md w0 w' Ka Kb K1 K2' L1 L2' p1 p2 bv bk := by
  refine ⟨chg_kn h.chg hE.chg (fun j hj => (h.new2 j hj).imp .inr id), h.at1.keep (Kp.of_chg hE.chg (fun j _ h1 h2 => h.apart j h1 h2)), hE.at', h.new1, fun j hj => ?_, fun j h1 hj => ?_, row_at h.at2 hE h.row (by decide), fun b hb => (h.each b hb).call h.at2 hE, h.small⟩
  · rcases hE.new j hj with h1 | h1
    · exact h.new2 j h1
    · exact .inr (Nat.le_trans h.chg.size h1)
  · rcases hE.new j hj with h2 | h2
    · exact h.apart j h1 h2
    · have := h.at1.lt j h1
      omega
/-- A list of numbers that is not in the book is turned. -/
theorem Md.turn {w0 w w' : World} {Ka Kb K1 K2 : Nat → Prop} {L1 L2 : LnT} {p1 p2 bv u : Value} {bk : List BkT} {n : Nat} {xs : List Value} (h : Md w0 w Ka Kb K1 K2 L1 L2 p1 p2 bv bk) (hc : Chg w w' (fun j => u.ownBlock = some j)) (hu : w.ownsRow w0.heap.size 3 1 u n xs) (hf : ∀ b ∈ bk, ∀ j, BkB b j → u.ownBlock ≠ some j) : Md w0 w' Ka Kb K1 K2 L1 L2 p1 p2 bv bk := by
  have hk : ∀ {K : Nat → Prop} {L : LnT} {p : Value}, AtL w K L p → AtL w' K L p := fun ha => ha.keep (Kp.of_chg hc (fun j _ hj e => by obtain ⟨cur, hcu⟩ := row_kind hu j e; exact absurd (ha.kind hj hcu) (by decide)))
  exact ⟨chg_kn h.chg hc (fun j e => .inr (row_block hu j e).1), hk h.at1, hk h.at2, h.new1, h.new2, h.apart, row_other h.row hc (Kind.own hu) (by decide), fun b hb => (h.each b hb).keep (Kp.of_chg hc (fun j _ hj e => hf b hb j hj e)), h.small⟩
/-- One more is in the book. -/
theorem Md.push {w0 w w' : World} {Ka Kb K1 K2 : Nat → Prop} {L1 L2 : LnT} {p1 p2 bv bv' : Value} {bk : List BkT} {x : BkT} (h : Md w0 w Ka Kb K1 K2 L1 L2 p1 p2 bv bk) (hr : w'.ownsRow w0.heap.size 81 3 bv' (bk.length + 1) (bk.flatMap BkT.cells ++ x.cells)) (hg : w.grownBy w' bv.ownBlock) (hx : BkE w x) (hs : x.Sm) : Md w0 w' Ka Kb K1 K2 L1 L2 p1 p2 bv' (bk ++ [x]) := by
  have hc := Chg.grown hg
  have hkd := Kind.own h.row
  have hk : ∀ {K : Nat → Prop} {L : LnT} {p : Value}, AtL w K L p → AtL w' K L p := fun ha => ha.keep (Kp.of_chg hc (fun j _ hj e => by obtain ⟨cur, hcu⟩ := row_kind h.row j e; exact absurd (ha.kind hj hcu) (by decide)))
  have he : ∀ {b : BkT}, BkE w b → BkE w' b := fun hb => ⟨row_other hb.l hc hkd (by decide), row_other hb.g hc hkd (by decide)⟩
  refine ⟨chg_kn h.chg hc (fun j e => .inr (row_block h.row j e).1), hk h.at1, hk h.at2, h.new1, h.new2, h.apart, ?_, fun b hb => ?_, fun b hb => ?_⟩
  · show World.ownsRow _ _ _ _ _ _ _
    rw [List.length_append, List.flatMap_append]
    simpa using hr
  · rcases List.mem_append.1 hb with hb | hb
    · exact he (h.each b hb)
    · obtain rfl : b = x := by simpa using hb
      exact he hx
  · rcases List.mem_append.1 hb with hb | hb
    · exact h.small b hb
    · obtain rfl : b = x := by simpa using hb
      exact hs
theorem runL_ok {L : LnT} : ∀ {l : List StL}, L.Ok → (runL L l).Ok
  | [], h => h
  | s :: l, h => runL_ok (l := l) (h.step s)
theorem Try.infoKept : (Try.prog.info? 81).map (fun i => (i.zero, i.size, i.bytes)) = some (some (.agg #[.slice none 0 0, .slice none 0 0, .int .i64 0]), 3, 56) := by kernel_rfl
theorem mark_wrap {q : Nat} (h : q ≤ 1000) (a : Int) (ha : -1000 ≤ a ∧ a ≤ 0) (c : Int) (hc : -1000 ≤ c ∧ c ≤ 0) : IntKind.i64.wrap (a * (q : Int)) = a * (q : Int) ∧ IntKind.i64.wrap (a * (q : Int) + c) = a * (q : Int) + c ∧ -1000000 - 1000 ≤ a * (q : Int) + c ∧ a * (q : Int) + c ≤ 0 := by
  have h1 : a * (q : Int) ≤ 0 := Int.mul_nonpos_of_nonpos_of_nonneg ha.2 (by omega)
  have h2 : -1000000 ≤ a * (q : Int) := by
    have h3 : (-1000 : Int) * (q : Int) ≤ a * (q : Int) := Int.mul_le_mul_of_nonneg_right ha.1 (by omega)
    omega
  refine ⟨?_, ?_, by omega, by omega⟩
  · generalize a * (q : Int) = z at h1 h2
    unfold IntKind.wrap
    simp [IntKind.bits, IntKind.signed]
    omega
  · generalize a * (q : Int) = z at h1 h2
    unfold IntKind.wrap
    simp [IntKind.bits, IntKind.signed]
    omega
end Go.Proofs.Ytfcobhgjkibdgaa
