/-
  Lists of lists that are somebody's own: no two lie in one block.
-/
import Derived.Test.YtbblckcjedjbcaaGreatDoorJRow
import Derived.Deep.MidRow
import Derived.Deep.AppendLies
namespace Go.Proofs.YtbblckcjedjbcaaGreatDoor.J
open Go.RowKit
set_option linter.unusedVariables false
set_option linter.unusedSimpArgs false

theorem range_of {w : World} {b : Nat} {cs : List Value} {t : TypeId} (h : w.heap[b]? = some (.cells cs.toArray t (0, 0))) : w.rangeAt b 0 cs := fun j v hv => by
  rw [Nat.zero_add]
  simpa [World.cell?, h] using hv
theorem there_of {w : World} {b n : Nat} {cs : Array Value} {t : TypeId} (h : w.heap[b]? = some (.cells cs t (0, 0))) (hn : n ≤ cs.size) : w.there b 0 n := fun j hj => by
  rw [Nat.zero_add]
  refine ⟨?_, by simp [World.frozen?, h]⟩
  simp [World.cell?, h, Array.getElem?_eq_getElem (show j < cs.size by omega)]
theorem chg_setCells (b : Nat) : ∀ (vs : List Value) (o : Nat) (w : World), Chg w (w.setCells b o vs) (fun j => j = b)
  | [], o, w => Chg.refl w _
  | v :: vs, o, w => (Chg.set w ⟨b, o, none⟩ v).trans (chg_setCells b vs (o + 1) (w.setCell ⟨b, o, none⟩ v))
theorem below_setCells {B : Nat} {w0 w : World} {b : Nat} (h : Below B w0 w) (hb : B ≤ b) (hB : B ≤ w0.heap.size) (vs : List Value) (o : Nat) : Below B w0 (w.setCells b o vs) := by
  have hc := chg_setCells b vs o w
  exact ⟨hc.os.trans h.os, hc.tape.trans h.tape, hc.output.trans h.output, Nat.le_trans h.size hc.size, fun j hj => by rw [hc.block j (Nat.lt_of_lt_of_le (Nat.lt_of_lt_of_le hj hB) h.size) (fun e => by have e : j = b := e; omega)]; exact h.block j hj⟩
theorem results_mid {P : Program} {fn : Func} {p : Tmp} {ty : TypeId} (h : fn.results = #[.cell p ty]) (tmps : Array Value) (w : World) (g : Nat) (cs : List Value) (d : TypeDesc)
    (hp : tmps.getD p undef = .pointer (some ⟨g, 0, none⟩)) (hg : w.rangeAt g 0 cs) (hu : P.underlying ty = some d) (hd : d.isRow = true) (hi : (P.info? ty).map (·.size) = some cs.length) :
    (results fn tmps).run P w = .ok (.agg cs.toArray) w := by
  have hp' : tmps[p]?.getD undef = .pointer (some ⟨g, 0, none⟩) := by simpa using hp
  simp [results, h, hp', asAddr, run_loadVar_mid w g 0 ty cs d hg hu hd hi]
/-- An element: its cells. -/
abbrev El (sz : Nat) : Type := { e : List Value // e.length = sz ∧ ∀ v ∈ e, v.oneCell' = true }
abbrev fl {sz : Nat} (l : List (El sz)) : List Value := l.flatMap (fun e => e.1)
theorem fl_len {sz : Nat} (l : List (El sz)) : (fl l).length = l.length * sz := flat_len (cells := fun e : El sz => e.1) (fun e => e.2.1) l
/-- These cells are laid over those from o on. -/
def setsL : List Value → Nat → List Value → List Value
  | xs, _, [] => xs
  | xs, o, v :: vs => setsL (xs.set o v) (o + 1) vs
theorem setsL_len : ∀ (e xs : List Value) (o : Nat), (setsL xs o e).length = xs.length
  | [], xs, o => rfl
  | v :: vs, xs, o => by rw [setsL, setsL_len vs]; simp
theorem setsL_get : ∀ (e xs : List Value) (o j : Nat), (setsL xs o e)[j]? = if o ≤ j ∧ j < o + e.length ∧ j < xs.length then e[j - o]? else xs[j]?
  | [], xs, o, j => by rw [setsL, if_neg (by simp; omega)]
  | v :: vs, xs, o, j => by
    rw [setsL, setsL_get vs]
    simp only [List.length_set, List.length_cons]
    by_cases h1 : o + 1 ≤ j ∧ j < o + 1 + vs.length ∧ j < xs.length
    · rw [if_pos h1, if_pos (by omega), show j - o = (j - (o + 1)) + 1 by omega, List.getElem?_cons_succ]
    · rw [if_neg h1, List.getElem?_set]
      by_cases h2 : o = j
      · subst h2
        by_cases h3 : o < xs.length
        · rw [if_pos rfl, if_pos h3, if_pos (by omega), Nat.sub_self]; rfl
        · rw [if_pos rfl, if_neg h3, if_neg (by omega), List.getElem?_eq_none (by omega)]
      · rw [if_neg h2, if_neg (by omega)]
theorem flat_get {sz : Nat} (h0 : 0 < sz) (l : List (El sz)) (j : Nat) : (fl l)[j]? = (l[j / sz]?).bind (fun e => e.1[j % sz]?) := by
  by_cases hj : j / sz < l.length
  · have hm : j % sz < sz := Nat.mod_lt _ h0
    obtain ⟨x, hx⟩ : ∃ x, l[j / sz]? = some x := ⟨_, List.getElem?_eq_getElem hj⟩
    have hl := x.2.1
    obtain ⟨u, hu⟩ : ∃ u, x.1[j % sz]? = some u := ⟨_, List.getElem?_eq_getElem (by omega)⟩
    have := flat_at (cells := fun e : El sz => e.1) (fun e => e.2.1) hx hu
    rw [Nat.mul_comm, Nat.div_add_mod] at this
    rw [this, hx]
    simp [hu]
  · have hge : l.length * sz ≤ j := by
      have h1 := Nat.div_add_mod j sz
      have h2 : l.length * sz ≤ j / sz * sz := Nat.mul_le_mul_right _ (by omega)
      rw [Nat.mul_comm] at h1
      omega
    rw [List.getElem?_eq_none (by rw [fl_len]; exact hge), List.getElem?_eq_none (by omega)]
    rfl
theorem fl_set {sz : Nat} (h0 : 0 < sz) (l : List (El sz)) (i : Nat) (e : El sz) (hi : i < l.length) : fl (l.set i e) = setsL (fl l) (i * sz) e.1 := by
  apply List.ext_getElem?
  intro j
  have hm : j % sz < sz := Nat.mod_lt _ h0
  have hd := Nat.div_add_mod j sz
  rw [Nat.mul_comm] at hd
  rw [flat_get h0, setsL_get, flat_get h0, fl_len, e.2.1, List.getElem?_set]
  by_cases hk : i = j / sz
  · subst hk
    have hlt : j < l.length * sz := by
      have h2 : (j / sz + 1) * sz ≤ l.length * sz := Nat.mul_le_mul_right _ hi
      rw [Nat.add_mul] at h2
      omega
    rw [if_pos rfl, if_pos hi, if_pos ⟨by omega, by omega, hlt⟩, show j - j / sz * sz = j % sz by omega]
    rfl
  · rw [if_neg hk, if_neg]
    intro hh
    apply hk
    have h3 : i * sz ≤ j := hh.1
    have h4 : j < (i + 1) * sz := by rw [Nat.add_mul]; omega
    have e1 : i ≤ j / sz := (Nat.le_div_iff_mul_le h0).2 h3
    have e2 : j / sz < i + 1 := (Nat.div_lt_iff_lt_mul h0).2 h4
    omega
theorem owns_sets {B e s n g cap : Nat} : ∀ (vs xs : List Value) (o : Nat) (w : World), w.ownsRow B e s (.slice (some ⟨g, 0, none⟩) n cap) n xs → (w.setCells g o vs).ownsRow B e s (.slice (some ⟨g, 0, none⟩) n cap) n (setsL xs o vs)
  | [], xs, o, w, h => h
  | v :: vs, xs, o, w, h => owns_sets vs (xs.set o v) (o + 1) (w.setCell ⟨g, o, none⟩ v) (owns_set h v)
/-- A list is set at i. -/
theorem row_sets {B T sz g cap : Nat} (h0 : 0 < sz) {w : World} {l : List (El sz)} (h : w.ownsRow B T sz (.slice (some ⟨g, 0, none⟩) l.length cap) l.length (fl l)) (i : Nat) (e : El sz) (hi : i < l.length) : (w.setCells g (i * sz) e.1).ownsRow B T sz (.slice (some ⟨g, 0, none⟩) l.length cap) (l.set i e).length (fl (l.set i e)) := by
  rw [List.length_set, fl_set h0 l i e hi]
  exact owns_sets e.1 _ _ w h
/-- The blocks of some lists. -/
def FamB (us : List Value) (b : Nat) : Prop := ∃ (k : Nat) (u : Value), us[k]? = some u ∧ u.ownBlock = some b
/-- Lists, each in a block of its own. -/
structure Fam (w : World) (T : TypeId) (sz : Nat) (us : List Value) (ls : List (List (El sz))) : Prop where
  len : us.length = ls.length
  row : ∀ (k : Nat) (u : Value) (l : List (El sz)), us[k]? = some u → ls[k]? = some l → w.ownsRow 0 T sz u l.length (fl l)
  nd : ∀ (i j : Nat) (u v : Value) (b : Nat), us[i]? = some u → us[j]? = some v → u.ownBlock = some b → v.ownBlock = some b → i = j
theorem Fam.get {w : World} {T : TypeId} {sz : Nat} {us : List Value} {ls : List (List (El sz))} (h : Fam w T sz us ls) {k : Nat} {u : Value} (hu : us[k]? = some u) : ∃ l, ls[k]? = some l ∧ w.ownsRow 0 T sz u l.length (fl l) := by
  have hk := (List.getElem?_eq_some_iff.1 hu).1
  have hl : ls[k]? = some (ls[k]'(by rw [← h.len]; exact hk)) := List.getElem?_eq_getElem _
  exact ⟨_, hl, h.row k u _ hu hl⟩
theorem Fam.lt {w : World} {T : TypeId} {sz : Nat} {us : List Value} {ls : List (List (El sz))} (h : Fam w T sz us ls) {b : Nat} (hb : FamB us b) : b < w.heap.size := by
  obtain ⟨k, u, hu, hub⟩ := hb
  obtain ⟨l, _, hr⟩ := h.get hu
  exact (row_block hr b hub).2
theorem Fam.keep {w w' : World} {T : TypeId} {sz : Nat} {us : List Value} {ls : List (List (El sz))} (h : Fam w T sz us ls) (hk : Kp w w' (FamB us)) : Fam w' T sz us ls :=
  ⟨h.len, fun k u l hu hl => owns_same (h.row k u l hu hl) (fun b hb => hk.block b (h.lt ⟨k, u, hu, hb⟩) ⟨k, u, hu, hb⟩), h.nd⟩
/-- One list is turned, in its own block. -/
theorem Fam.turn {w w' : World} {T : TypeId} {sz : Nat} {us : List Value} {ls : List (List (El sz))} (h : Fam w T sz us ls) {k : Nat} {u : Value} (hu : us[k]? = some u) (hc : Chg w w' (fun b => u.ownBlock = some b)) {l' : List (El sz)} (hr : w'.ownsRow 0 T sz u l'.length (fl l')) : Fam w' T sz us (ls.set k l') := by
  refine ⟨by rw [List.length_set]; exact h.len, fun j v l hv hl => ?_, h.nd⟩
  rw [List.getElem?_set] at hl
  by_cases hj : k = j
  · subst hj
    rw [if_pos rfl] at hl
    split at hl
    · cases hl
      rw [hu] at hv
      cases hv
      exact hr
    · cases hl
  · rw [if_neg hj] at hl
    exact owns_same (h.row j v l hv hl) (fun b hb => hc.block b (row_block (h.row j v l hv hl) b hb).2 (fun e => hj (h.nd k j u v b hu hv e hb)))
/-- One list more. -/
theorem Fam.push {w : World} {T : TypeId} {sz : Nat} {us : List Value} {ls : List (List (El sz))} (h : Fam w T sz us ls) {u : Value} {l : List (El sz)} (hr : w.ownsRow 0 T sz u l.length (fl l)) (hn : ∀ b, u.ownBlock = some b → ¬ FamB us b) : Fam w T sz (us ++ [u]) (ls ++ [l]) := by
  have hat : ∀ {α : Type} {xs : List α} {x : α} {k : Nat} {y : α}, (xs ++ [x])[k]? = some y → xs[k]? = some y ∨ (k = xs.length ∧ y = x) := fun {α xs x k y} hy => by
    rw [List.getElem?_append] at hy
    split at hy
    · exact .inl hy
    · rename_i hlt
      by_cases hz : k - xs.length = 0
      · rw [hz] at hy
        exact .inr ⟨by omega, by simpa using hy.symm⟩
      · rw [List.getElem?_eq_none (by simp; omega)] at hy; cases hy
  refine ⟨by simp [h.len], fun k v m hv hm => ?_, fun i j v v' b hv hv' hb hb' => ?_⟩
  · rcases hat hv with hv | ⟨hk, rfl⟩
    · rcases hat hm with hm | ⟨hk2, rfl⟩
      · exact h.row k v m hv hm
      · have := (List.getElem?_eq_some_iff.1 hv).1; have := h.len; omega
    · rcases hat hm with hm | ⟨hk2, rfl⟩
      · have := (List.getElem?_eq_some_iff.1 hm).1; have := h.len; omega
      · exact hr
  · rcases hat hv with hv1 | ⟨hi, e1⟩ <;> rcases hat hv' with hv2 | ⟨hj, e2⟩
    · exact h.nd i j v v' b hv1 hv2 hb hb'
    · exact absurd ⟨i, v, hv1, hb⟩ (hn b (by rw [← e2]; exact hb'))
    · exact absurd ⟨j, v', hv2, hb'⟩ (hn b (by rw [← e1]; exact hb))
    · omega
end Go.Proofs.YtbblckcjedjbcaaGreatDoor.J
