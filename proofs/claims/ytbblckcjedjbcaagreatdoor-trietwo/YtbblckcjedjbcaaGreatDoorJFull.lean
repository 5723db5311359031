import Derived.Test.YtbblckcjedjbcaaGreatDoorJRow
import Derived.Deep.MidRow
import Derived.Deep.AppendLies
import Derived.ArgAppend
namespace Go.Proofs.YtbblckcjedjbcaaGreatDoor.J
open Go.RowKit
set_option linter.unusedVariables false
set_option linter.unusedSimpArgs false

theorem range_of {w : World} {b : Nat} {cs : List Value} {t : TypeId} (h : w.heap[b]? = some (.cells cs.toArray t (0, 0))) : w.rangeAt b 0 cs := fun j v hv => by
  rw [Nat.zero_add]
  simpa [World.cell?, h] using hv
theorem there_of {w : World} {b n : Nat} {cs : Array Value} {t : TypeId} (h : w.heap[b]? = some (.cells cs t (0, 0))) (hn : n ≤ cs.size) : w.there b 0 n := fun j hj => by
  rw [Nat.zero_add]
  refine ⟨?_, by simp [World.frozen?, h]⟩
  simp [World.cell?, h, Array.getElem?_eq_getElem (show j < cs.size by omega)]
theorem chg_setCells (b : Nat) : ∀ (vs : List Value) (o : Nat) (w : World), Chg w (w.setCells b o vs) (fun j => j = b)
  | [], o, w => Chg.refl w _
  | v :: vs, o, w => (Chg.set w ⟨b, o, none⟩ v).trans (chg_setCells b vs (o + 1) (w.setCell ⟨b, o, none⟩ v))
theorem below_setCells {B : Nat} {w0 w : World} {b : Nat} (h : Below B w0 w) (hb : B ≤ b) (hB : B ≤ w0.heap.size) (vs : List Value) (o : Nat) : Below B w0 (w.setCells b o vs) := by
  have hc := chg_setCells b vs o w
  exact ⟨hc.os.trans h.os, hc.tape.trans h.tape, hc.output.trans h.output, Nat.le_trans h.size hc.size, fun j hj => by rw [hc.block j (Nat.lt_of_lt_of_le (Nat.lt_of_lt_of_le hj hB) h.size) (fun e => by have e : j = b := e; omega)]; exact h.block j hj⟩
theorem results_mid {P : Program} {fn : Func} {p : Tmp} {ty : TypeId} (h : fn.results = #[.cell p ty]) (tmps : Array Value) (w : World) (g : Nat) (cs : List Value) (d : TypeDesc)
    (hp : tmps.getD p undef = .pointer (some ⟨g, 0, none⟩)) (hg : w.rangeAt g 0 cs) (hu : P.underlying ty = some d) (hd : d.isRow = true) (hi : (P.info? ty).map (·.size) = some cs.length) :
    (results fn tmps).run P w = .ok (.agg cs.toArray) w := by
  have hp' : tmps[p]?.getD undef = .pointer (some ⟨g, 0, none⟩) := by simpa using hp
  simp [results, h, hp', asAddr, run_loadVar_mid w g 0 ty cs d hg hu hd hi]
/-- An element: its cells. -/
abbrev El (sz : Nat) : Type := { e : List Value // e.length = sz ∧ ∀ v ∈ e, v.oneCell' = true }
abbrev fl {sz : Nat} (l : List (El sz)) : List Value := l.flatMap (fun e => e.1)
theorem fl_len {sz : Nat} (l : List (El sz)) : (fl l).length = l.length * sz := flat_len (cells := fun e : El sz => e.1) (fun e => e.2.1) l
/-- These cells are laid over those from o on. -/
def setsL : List Value → Nat → List Value → List Value
  | xs, _, [] => xs
  | xs, o, v :: vs => setsL (xs.set o v) (o + 1) vs
theorem setsL_len : ∀ (e xs : List Value) (o : Nat), (setsL xs o e).length = xs.length
  | [], xs, o => rfl
  | v :: vs, xs, o => by rw [setsL, setsL_len vs]; simp
theorem setsL_get : ∀ (e xs : List Value) (o j : Nat), (setsL xs o e)[j]? = if o ≤ j ∧ j < o + e.length ∧ j < xs.length then e[j - o]? else xs[j]?
  | [], xs, o, j => by rw [setsL, if_neg (by simp; omega)]
  | v :: vs, xs, o, j => by
    rw [setsL, setsL_get vs]
    simp only [List.length_set, List.length_cons]
    by_cases h1 : o + 1 ≤ j ∧ j < o + 1 + vs.length ∧ j < xs.length
    · rw [if_pos h1, if_pos (by omega), show j - o = (j - (o + 1)) + 1 by omega, List.getElem?_cons_succ]
    · rw [if_neg h1, List.getElem?_set]
      by_cases h2 : o = j
      · subst h2
        by_cases h3 : o < xs.length
        · rw [if_pos rfl, if_pos h3, if_pos (by omega), Nat.sub_self]; rfl
        · rw [if_pos rfl, if_neg h3, if_neg (by omega), List.getElem?_eq_none (by omega)]
      · rw [if_neg h2, if_neg (by omega)]
theorem flat_get {sz : Nat} (h0 : 0 < sz) (l : List (El sz)) (j : Nat) : (fl l)[j]? = (l[j / sz]?).bind (fun e => e.1[j % sz]?) := by
  by_cases hj : j / sz < l.length
  · have hm : j % sz < sz := Nat.mod_lt _ h0
    obtain ⟨x, hx⟩ : ∃ x, l[j / sz]? = some x := ⟨_, List.getElem?_eq_getElem hj⟩
    have hl := x.2.1
    obtain ⟨u, hu⟩ : ∃ u, x.1[j % sz]? = some u := ⟨_, List.getElem?_eq_getElem (by omega)⟩
    have := flat_at (cells := fun e : El sz => e.1) (fun e => e.2.1) hx hu
    rw [Nat.mul_comm, Nat.div_add_mod] at this
    rw [this, hx]
    simp [hu]
  · have hge : l.length * sz ≤ j := by
      have h1 := Nat.div_add_mod j sz
      have h2 : l.length * sz ≤ j / sz * sz := Nat.mul_le_mul_right _ (by omega)
      rw [Nat.mul_comm] at h1
      omega
    rw [List.getElem?_eq_none (by rw [fl_len]; exact hge), List.getElem?_eq_none (by omega)]
    rfl
theorem fl_set {sz : Nat} (h0 : 0 < sz) (l : List (El sz)) (i : Nat) (e : El sz) (hi : i < l.length) : fl (l.set i e) = setsL (fl l) (i * sz) e.1 := by
  apply List.ext_getElem?
  intro j
  have hm : j % sz < sz := Nat.mod_lt _ h0
  have hd := Nat.div_add_mod j sz
  rw [Nat.mul_comm] at hd
  rw [flat_get h0, setsL_get, flat_get h0, fl_len, e.2.1, List.getElem?_set]
  by_cases hk : i = j / sz
  · subst hk
    have hlt : j < l.length * sz := by
      have h2 : (j / sz + 1) * sz ≤ l.length * sz := Nat.mul_le_mul_right _ hi
      rw [Nat.add_mul] at h2
      omega
    rw [if_pos rfl, if_pos hi, if_pos ⟨by omega, by omega, hlt⟩, show j - j / sz * sz = j % sz by omega]
    rfl
  · rw [if_neg hk, if_neg]
    intro hh
    apply hk
    have h3 : i * sz ≤ j := hh.1
    have h4 : j < (i + 1) * sz := by rw [Nat.add_mul]; omega
    have e1 : i ≤ j / sz := (Nat.le_div_iff_mul_le h0).2 h3
    have e2 : j / sz < i + 1 := (Nat.div_lt_iff_lt_mul h0).2 h4
    omega
theorem owns_sets {B e s n g cap : Nat} : ∀ (vs xs : List Value) (o : Nat) (w : World), w.ownsRow B e s (.slice (some ⟨g, 0, none⟩) n cap) n xs → (w.setCells g o vs).ownsRow B e s (.slice (some ⟨g, 0, none⟩) n cap) n (setsL xs o vs)
  | [], xs, o, w, h => h
  | v :: vs, xs, o, w, h => owns_sets vs (xs.set o v) (o + 1) (w.setCell ⟨g, o, none⟩ v) (owns_set h v)
/-- A list is set at i. -/
theorem row_sets {B T sz g cap : Nat} (h0 : 0 < sz) {w : World} {l : List (El sz)} (h : w.ownsRow B T sz (.slice (some ⟨g, 0, none⟩) l.length cap) l.length (fl l)) (i : Nat) (e : El sz) (hi : i < l.length) : (w.setCells g (i * sz) e.1).ownsRow B T sz (.slice (some ⟨g, 0, none⟩) l.length cap) (l.set i e).length (fl (l.set i e)) := by
  rw [List.length_set, fl_set h0 l i e hi]
  exact owns_sets e.1 _ _ w h
/-- The blocks of some lists. -/
def FamB (us : List Value) (b : Nat) : Prop := ∃ (k : Nat) (u : Value), us[k]? = some u ∧ u.ownBlock = some b
/-- Lists, each in a block of its own. -/
structure Fam (w : World) (T : TypeId) (sz : Nat) (us : List Value) (ls : List (List (El sz))) : Prop where
  len : us.length = ls.length
  row : ∀ (k : Nat) (u : Value) (l : List (El sz)), us[k]? = some u → ls[k]? = some l → w.ownsRow 0 T sz u l.length (fl l)
  nd : ∀ (i j : Nat) (u v : Value) (b : Nat), us[i]? = some u → us[j]? = some v → u.ownBlock = some b → v.ownBlock = some b → i = j
theorem Fam.get {w : World} {T : TypeId} {sz : Nat} {us : List Value} {ls : List (List (El sz))} (h : Fam w T sz us ls) {k : Nat} {u : Value} (hu : us[k]? = some u) : ∃ l, ls[k]? = some l ∧ w.ownsRow 0 T sz u l.length (fl l) := by
  have hk := (List.getElem?_eq_some_iff.1 hu).1
  have hl : ls[k]? = some (ls[k]'(by rw [← h.len]; exact hk)) := List.getElem?_eq_getElem _
  exact ⟨_, hl, h.row k u _ hu hl⟩
theorem Fam.lt {w : World} {T : TypeId} {sz : Nat} {us : List Value} {ls : List (List (El sz))} (h : Fam w T sz us ls) {b : Nat} (hb : FamB us b) : b < w.heap.size := by
  obtain ⟨k, u, hu, hub⟩ := hb
  obtain ⟨l, _, hr⟩ := h.get hu
  exact (row_block hr b hub).2
theorem Fam.keep {w w' : World} {T : TypeId} {sz : Nat} {us : List Value} {ls : List (List (El sz))} (h : Fam w T sz us ls) (hk : Kp w w' (FamB us)) : Fam w' T sz us ls :=
  ⟨h.len, fun k u l hu hl => owns_same (h.row k u l hu hl) (fun b hb => hk.block b (h.lt ⟨k, u, hu, hb⟩) ⟨k, u, hu, hb⟩), h.nd⟩
/-- One list is turned, in its own block. -/
theorem Fam.turn {w w' : World} {T : TypeId} {sz : Nat} {us : List Value} {ls : List (List (El sz))} (h : Fam w T sz us ls) {k : Nat} {u : Value} (hu : us[k]? = some u) (hc : Chg w w' (fun b => u.ownBlock = some b)) {l' : List (El sz)} (hr : w'.ownsRow 0 T sz u l'.length (fl l')) : Fam w' T sz us (ls.set k l') := by
  refine ⟨by rw [List.length_set]; exact h.len, fun j v l hv hl => ?_, h.nd⟩
  rw [List.getElem?_set] at hl
  by_cases hj : k = j
  · subst hj
    rw [if_pos rfl] at hl
    split at hl
    · cases hl
      rw [hu] at hv
      cases hv
      exact hr
    · cases hl
  · rw [if_neg hj] at hl
    exact owns_same (h.row j v l hv hl) (fun b hb => hc.block b (row_block (h.row j v l hv hl) b hb).2 (fun e => hj (h.nd k j u v b hu hv e hb)))
/-- One list more. -/
theorem Fam.push {w : World} {T : TypeId} {sz : Nat} {us : List Value} {ls : List (List (El sz))} (h : Fam w T sz us ls) {u : Value} {l : List (El sz)} (hr : w.ownsRow 0 T sz u l.length (fl l)) (hn : ∀ b, u.ownBlock = some b → ¬ FamB us b) : Fam w T sz (us ++ [u]) (ls ++ [l]) := by
  have hat : ∀ {α : Type} {xs : List α} {x : α} {k : Nat} {y : α}, (xs ++ [x])[k]? = some y → xs[k]? = some y ∨ (k = xs.length ∧ y = x) := fun {α xs x k y} hy => by
    rw [List.getElem?_append] at hy
    split at hy
    · exact .inl hy
    · rename_i hlt
      by_cases hz : k - xs.length = 0
      · rw [hz] at hy
        exact .inr ⟨by omega, by simpa using hy.symm⟩
      · rw [List.getElem?_eq_none (by simp; omega)] at hy; cases hy
  refine ⟨by simp [h.len], fun k v m hv hm => ?_, fun i j v v' b hv hv' hb hb' => ?_⟩
  · rcases hat hv with hv | ⟨hk, rfl⟩
    · rcases hat hm with hm | ⟨hk2, rfl⟩
      · exact h.row k v m hv hm
      · have := (List.getElem?_eq_some_iff.1 hv).1; have := h.len; omega
    · rcases hat hm with hm | ⟨hk2, rfl⟩
      · have := (List.getElem?_eq_some_iff.1 hm).1; have := h.len; omega
      · exact hr
  · rcases hat hv with hv1 | ⟨hi, e1⟩ <;> rcases hat hv' with hv2 | ⟨hj, e2⟩
    · exact h.nd i j v v' b hv1 hv2 hb hb'
    · exact absurd ⟨i, v, hv1, hb⟩ (hn b (by rw [← e2]; exact hb'))
    · exact absurd ⟨j, v', hv2, hb'⟩ (hn b (by rw [← e1]; exact hb))
    · omega
end Go.Proofs.YtbblckcjedjbcaaGreatDoor.J
namespace Go.Proofs.YtbblckcjedjbcaaGreatDoor.J
open Go.RowKit
set_option linter.unusedVariables false
set_option linter.unusedSimpArgs false

def mkV (n : Int) : El 2 := ⟨[.int .i64 0, .int .i64 n], rfl, by simp [Value.oneCell']⟩
def mkN (n : Int) : El 4 := ⟨[.int .i64 n, .string ⟨#[]⟩, .int .i64 0, .int .i64 0], rfl, by simp [Value.oneCell']⟩
/-- Blocks of two kinds are two. -/
theorem kind_ne2 {w : World} {B B' e e' s s' n n' k : Nat} {v v' : Value} {xs xs' : List Value} (h : w.ownsRow B e s v n xs) (h' : w.ownsRow B' e' s' v' n' xs') (hk : v.ownBlock = some k) (hk' : v'.ownBlock = some k) (hne : e ≠ e') : False := by
  obtain ⟨c, hc⟩ := owns_kind h hk
  obtain ⟨c', hc'⟩ := owns_kind h' hk'
  rw [hc] at hc'
  cases hc'
  exact hne rfl
theorem kind_box {w : World} {B e s n k b t : Nat} {v : Value} {xs : List Value} {cs : Array Value} (h : w.ownsRow B e s v n xs) (hk : v.ownBlock = some k) (hb : w.heap[b]? = some (.cells cs t (0, 0))) (hne : e ≠ t) : k ≠ b := fun h' => by
  obtain ⟨c, hc⟩ := owns_kind h hk
  rw [h', hb] at hc
  cases hc
  exact hne rfl
/-- The book's first half: the box, the heads, the lists. -/
structure Bo (w : World) (B : Nat) (hv hn m1 m2 : Value) (us ms : List Value) (ls : List (List (El 2))) (ns : List (List (El 4))) : Prop where
  box : w.heap[B]? = some (.cells #[hv, m1, hn, m2] 60 (0, 0))
  hr : w.ownsRow 0 37 1 hv us.length us
  nr : w.ownsRow 0 43 1 hn ms.length ms
  fu : Fam w 34 2 us ls
  fm : Fam w 40 4 ms ns
theorem Bo.cellV {w : World} {B : Nat} {hv hn m1 m2 : Value} {us ms : List Value} {ls : List (List (El 2))} {ns : List (List (El 4))} (h : Bo w B hv hn m1 m2 us ms ls ns) {k : Nat} {u : Value} (hu : us[k]? = some u) : ∃ g c, hv = .slice (some ⟨g, 0, none⟩) us.length c ∧ w.cell? ⟨g, k, none⟩ = some u := by
  have hk := (List.getElem?_eq_some_iff.1 hu).1
  rcases h.hr.2 with ⟨_, h0⟩ | ⟨g, cap, cur, hv', _⟩
  · omega
  · refine ⟨g, cap, hv', ?_⟩
    have := h.hr
    rw [hv'] at this
    exact cell_n this hu
theorem Bo.cellN {w : World} {B : Nat} {hv hn m1 m2 : Value} {us ms : List Value} {ls : List (List (El 2))} {ns : List (List (El 4))} (h : Bo w B hv hn m1 m2 us ms ls ns) {k : Nat} {u : Value} (hu : ms[k]? = some u) : ∃ g c, hn = .slice (some ⟨g, 0, none⟩) ms.length c ∧ w.cell? ⟨g, k, none⟩ = some u := by
  have hk := (List.getElem?_eq_some_iff.1 hu).1
  rcases h.nr.2 with ⟨_, h0⟩ | ⟨g, cap, cur, hv', _⟩
  · omega
  · refine ⟨g, cap, hv', ?_⟩
    have := h.nr
    rw [hv'] at this
    exact cell_n this hu
/-- A list of the first family is set at i. -/
theorem Bo.setV {w : World} {B : Nat} {hv hn m1 m2 : Value} {us ms : List Value} {ls : List (List (El 2))} {ns : List (List (El 4))} (h : Bo w B hv hn m1 m2 us ms ls ns) {k g c i : Nat} {l : List (El 2)} (hu : us[k]? = some (.slice (some ⟨g, 0, none⟩) l.length c)) (hl : ls[k]? = some l) (hi : i < l.length) (e : El 2) :
    Bo (w.setCells g (i * 2) e.1) B hv hn m1 m2 us ms (ls.set k (l.set i e)) ns ∧ Chg w (w.setCells g (i * 2) e.1) (FamB us) := by
  have hr := h.fu.row k _ l hu hl
  have hc := chg_setCells g e.1 (i * 2) w
  have hg : (Value.slice (some ⟨g, 0, none⟩) l.length c).ownBlock = some g := rfl
  have ht := row_sets (by decide) hr i e hi
  refine ⟨⟨?_, owns_same h.hr (fun b hb => hc.block b (row_block h.hr b hb).2 (fun e' => by have e' : b = g := e'; subst e'; exact kind_ne2 h.hr hr hb hg (by decide))), owns_same h.nr (fun b hb => hc.block b (row_block h.nr b hb).2 (fun e' => by have e' : b = g := e'; subst e'; exact kind_ne2 h.nr hr hb hg (by decide))), ?_, h.fm.keep (Kp.of_chg hc (fun b hb hF e' => ?_))⟩, hc.mono (fun b _ hb => ⟨k, _, hu, by have hb : b = g := hb; rw [hb]; rfl⟩)⟩
  · rw [hc.block B (lt_of_blk h.box) (fun e' => kind_box hr hg h.box (by decide) (by have e' : B = g := e'; exact e'.symm))]
    exact h.box
  · exact h.fu.turn hu (hc.mono (fun b _ hb => by have hb : b = g := hb; rw [hb]; rfl)) (by rw [List.length_set] at ht ⊢; exact ht)
  · obtain ⟨j, v, hv', hvb⟩ := hF
    have e' : b = g := e'
    subst e'
    obtain ⟨l2, _, hr2⟩ := h.fm.get hv'
    exact kind_ne2 hr2 hr hvb hg (by decide)
theorem Bo.setN {w : World} {B : Nat} {hv hn m1 m2 : Value} {us ms : List Value} {ls : List (List (El 2))} {ns : List (List (El 4))} (h : Bo w B hv hn m1 m2 us ms ls ns) {k g c i : Nat} {l : List (El 4)} (hu : ms[k]? = some (.slice (some ⟨g, 0, none⟩) l.length c)) (hl : ns[k]? = some l) (hi : i < l.length) (e : El 4) :
    Bo (w.setCells g (i * 4) e.1) B hv hn m1 m2 us ms ls (ns.set k (l.set i e)) ∧ Chg w (w.setCells g (i * 4) e.1) (FamB ms) := by
  have hr := h.fm.row k _ l hu hl
  have hc := chg_setCells g e.1 (i * 4) w
  have hg : (Value.slice (some ⟨g, 0, none⟩) l.length c).ownBlock = some g := rfl
  have ht := row_sets (by decide) hr i e hi
  refine ⟨⟨?_, owns_same h.hr (fun b hb => hc.block b (row_block h.hr b hb).2 (fun e' => by have e' : b = g := e'; subst e'; exact kind_ne2 h.hr hr hb hg (by decide))), owns_same h.nr (fun b hb => hc.block b (row_block h.nr b hb).2 (fun e' => by have e' : b = g := e'; subst e'; exact kind_ne2 h.nr hr hb hg (by decide))), h.fu.keep (Kp.of_chg hc (fun b hb hF e' => ?_)), ?_⟩, hc.mono (fun b _ hb => ⟨k, _, hu, by have hb : b = g := hb; rw [hb]; rfl⟩)⟩
  · rw [hc.block B (lt_of_blk h.box) (fun e' => kind_box hr hg h.box (by decide) (by have e' : B = g := e'; exact e'.symm))]
    exact h.box
  · obtain ⟨j, v, hv', hvb⟩ := hF
    have e' : b = g := e'
    subst e'
    obtain ⟨l2, _, hr2⟩ := h.fu.get hv'
    exact kind_ne2 hr2 hr hvb hg (by decide)
  · exact h.fm.turn hu (hc.mono (fun b _ hb => by have hb : b = g := hb; rw [hb]; rfl)) (by rw [List.length_set] at ht ⊢; exact ht)
/-- So many lists are full of their marks; none has become shorter or longer. -/
structure Mk {sz : Nat} (mk : Int → El sz) (lens : List Nat) (ls : List (List (El sz))) (q : Nat) : Prop where
  len : ls.map List.length = lens
  old : ∀ (k : Nat) (l : List (El sz)), ls[k]? = some l → k < q → ∀ (j : Nat) (e : El sz), l[j]? = some e → e = mk ((k : Int) + 1)
structure Mi {sz : Nat} (mk : Int → El sz) (lens : List Nat) (ls : List (List (El sz))) (q i : Nat) : Prop extends Mk mk lens ls q where
  now : ∀ (l : List (El sz)), ls[q]? = some l → ∀ (j : Nat) (e : El sz), j < i → l[j]? = some e → e = mk ((q : Int) + 1)
theorem Mk.mi {sz : Nat} {mk : Int → El sz} {lens : List Nat} {ls : List (List (El sz))} {q : Nat} (h : Mk mk lens ls q) : Mi mk lens ls q 0 := ⟨h, fun _ _ j _ hj => absurd hj (Nat.not_lt_zero _)⟩
theorem Mk.at {sz : Nat} {mk : Int → El sz} {lens : List Nat} {ls : List (List (El sz))} {q k : Nat} (h : Mk mk lens ls q) {l : List (El sz)} (hl : ls[k]? = some l) : lens[k]? = some l.length := by rw [← h.len, List.getElem?_map, hl]; rfl
theorem Mi.next {sz : Nat} {mk : Int → El sz} {lens : List Nat} {ls : List (List (El sz))} {q i : Nat} (h : Mi mk lens ls q i) {l : List (El sz)} (hl : ls[q]? = some l) (hi : i < l.length) : Mi mk lens (ls.set q (l.set i (mk ((q : Int) + 1)))) q (i + 1) := by
  have hq := (List.getElem?_eq_some_iff.1 hl).1
  refine ⟨⟨?_, fun k m hm hk j e he => ?_⟩, fun m hm j e hj he => ?_⟩
  · rw [← h.len]
    apply List.ext_getElem?
    intro k
    rw [List.getElem?_map, List.getElem?_map, List.getElem?_set]
    by_cases hk : q = k
    · subst hk; rw [if_pos rfl, if_pos hq, hl]; simp
    · rw [if_neg hk]
  · rw [List.getElem?_set, if_neg (by omega)] at hm
    exact h.old k m hm hk j e he
  · rw [List.getElem?_set, if_pos rfl, if_pos hq] at hm
    cases hm
    rw [List.getElem?_set] at he
    by_cases hji : i = j
    · rw [if_pos hji] at he
      split at he
      · exact (Option.some.inj he).symm
      · omega
    · rw [if_neg hji] at he
      exact h.now l hl j e (by omega) he
theorem Mi.done {sz : Nat} {mk : Int → El sz} {lens : List Nat} {ls : List (List (El sz))} {q i : Nat} (h : Mi mk lens ls q i) (hi : ∀ l, ls[q]? = some l → l.length ≤ i) : Mk mk lens ls (q + 1) :=
  ⟨h.len, fun k l hl hk j e he => by
    by_cases hkq : k = q
    · subst hkq
      exact h.now l hl j e (by have := (List.getElem?_eq_some_iff.1 he).1; have := hi l hl; omega) he
    · exact h.old k l hl (by omega) j e he⟩
set_option maxHeartbeats 12800000 in
set_option maxRecDepth 100000 in
theorem full_any (B : Nat) (hv hn m1 m2 : Value) (us ms : List Value) (ls : List (List (El 2))) (ns : List (List (El 4))) (w : World) (h : Bo w B hv hn m1 m2 us ms ls ns) (hu : us.length ≤ 1000) (hm : ms.length ≤ 1000) (hul : ∀ n ∈ ls.map List.length, n ≤ 1000) (hml : ∀ n ∈ ns.map List.length, n ≤ 1000) :
    Calls Tryz.prog 47 #[.pointer (some ⟨B, 0, none⟩)] w fun e w' => e = .returned (.tuple #[]) ∧ (∃ ls' ns', Bo w' B hv hn m1 m2 us ms ls' ns' ∧ Mk mkV (ls.map List.length) ls' us.length ∧ Mk mkN (ns.map List.length) ns' ms.length) ∧ Chg w w' (fun b => FamB us b ∨ FamB ms b) := by
  obtain ⟨n, hnn⟩ : ∃ n, us.length = n := ⟨_, rfl⟩
  obtain ⟨m, hmm⟩ : ∃ m, ms.length = m := ⟨_, rfl⟩
  obtain ⟨va, vc, rfl⟩ : ∃ va vc, hv = .slice va n vc := by
    rcases h.hr.2 with ⟨rfl, h0⟩ | ⟨g, cap, cur, rfl, _⟩
    · exact ⟨none, 0, by rw [← hnn, h0]⟩
    · exact ⟨_, _, by rw [hnn]⟩
  obtain ⟨na, nc, rfl⟩ : ∃ na nc, hn = .slice na m nc := by
    rcases h.nr.2 with ⟨rfl, h0⟩ | ⟨g, cap, cur, rfl, _⟩
    · exact ⟨none, 0, by rw [← hmm, h0]⟩
    · exact ⟨_, _, by rw [hmm]⟩
  obtain ⟨L1, hL1⟩ : ∃ L, ls.map List.length = L := ⟨_, rfl⟩
  obtain ⟨L2, hL2⟩ : ∃ L, ns.map List.length = L := ⟨_, rfl⟩
  rw [hL1] at hul ⊢
  rw [hL2] at hml ⊢
  rw [hnn] at hu ⊢
  rw [hmm] at hm ⊢
  have HU : Hid (us.length = n) := hnn
  have HM : Hid (ms.length = m) := hmm
  have HUL : Hid (∀ k ∈ L1, k ≤ 1000) := hul
  have HML : Hid (∀ k ∈ L2, k ≤ 1000) := hml
  have H0 : Hid (Bo w B (.slice va n vc) (.slice na m nc) m1 m2 us ms ls ns) := h
  have HK0 : Hid (Mk mkV L1 ls 0) := ⟨hL1, fun _ _ _ hk => absurd hk (Nat.not_lt_zero _)⟩
  have HN0 : Hid (Mk mkN L2 ns 0) := ⟨hL2, fun _ _ _ hk => absurd hk (Nat.not_lt_zero _)⟩
  clear h hnn hmm hL1 hL2 hul hml
  go_enter Tryz.func47, Tryz.ntmps47
  go_wp2_with fail
  go_loopw [2] (fun k wr => ∃ (q : Nat) (X : List (List (El 2))), k = .int .i64 q ∧ q ≤ n ∧ Hid (Bo wr B (.slice va n vc) (.slice na m nc) m1 m2 us ms X ns) ∧ Hid (Mk mkV L1 X q) ∧ Hid (Chg w wr (FamB us))) (fun k _ => n - (intOf k).toNat)
  case atStart => exact ⟨0, ls, rfl, Nat.zero_le _, H0, HK0, Chg.refl _ _⟩
  case round =>
    obtain ⟨q, X, rfl, hq, HB, HK, HC⟩ := hrel
    obtain ⟨b0, b1, b2, b3⟩ := cells_4 HB.out.box
    by_cases hlt : q < n
    · have hqi : (q : Int) < (n : Int) := by omega
      obtain ⟨u, hu⟩ : ∃ u, us[q]? = some u := ⟨us[q]'(by rw [HU.out]; exact hlt), List.getElem?_eq_getElem _⟩
      obtain ⟨l, hl, hr⟩ := HB.out.fu.get hu
      obtain ⟨hg, hcc, hhv, hcell⟩ := HB.out.cellV hu
      rw [HU.out] at hhv
      simp only [Value.slice.injEq, true_and] at hhv
      obtain ⟨hva, -⟩ := hhv
      have HVA : Hid (va = some ⟨hg, 0, none⟩) := hva
      rw [hva] at b0
      clear hva
      obtain ⟨z, hz⟩ : ∃ z, l.length = z := ⟨_, rfl⟩
      obtain ⟨ua, uc, rfl⟩ : ∃ ua uc, u = .slice ua z uc := by
        rcases hr.2 with ⟨rfl, h0⟩ | ⟨g, cap, cur, rfl, _⟩
        · exact ⟨none, 0, by rw [← hz, h0]⟩
        · exact ⟨_, _, by rw [hz]⟩
      have hz1000 : z ≤ 1000 := HUL.out z (List.mem_of_getElem? (by rw [← hz]; exact HK.out.at hl))
      have HUQ : Hid (us[q]? = some (.slice ua z uc)) := hu
      have HLZ : Hid (L1[q]? = some z) := by have := HK.out.at hl; rw [hz] at this; exact this
      have hqw : IntKind.i64.wrap ((q : Int) + 1) = (q : Int) + 1 := by rw [IntKind.wrap_i64]; omega
      clear hu hl hr hz
      go_wp2_with fail
      go_loopw [3] (fun i wk => ∃ (p : Nat) (X : List (List (El 2))), i = .int .i64 p ∧ p ≤ z ∧ Hid (Bo wk B (.slice va n vc) (.slice na m nc) m1 m2 us ms X ns) ∧ Hid (Mi mkV L1 X q p) ∧ Hid (Chg w wk (FamB us))) (fun i _ => z - (intOf i).toNat)
      case atStart => exact ⟨0, X, rfl, Nat.zero_le _, HB, HK.out.mi, HC⟩
      case round =>
        clear b0 b1 b2 b3 hcell HB HK HC
        obtain ⟨p, Y, rfl, hp, HB, HI, HC⟩ := hrel
        obtain ⟨b0, b1, b2, b3⟩ := cells_4 HB.out.box
        obtain ⟨hg', hcc', hhv, hcell⟩ := HB.out.cellV HUQ.out
        rw [HU.out, HVA.out] at hhv
        simp only [Value.slice.injEq, true_and, Option.some.injEq, Addr.mk.injEq, and_true] at hhv
        obtain ⟨hgg, -⟩ := hhv
        rw [← hgg] at hcell
        rw [HVA.out] at b0
        clear hgg
        by_cases hltp : p < z
        · have hpi : (p : Int) < (z : Int) := by omega
          obtain ⟨l, hl, hr⟩ := HB.out.fu.get HUQ.out
          have hz : l.length = z := by have h1 := HI.out.toMk.at hl; rw [HLZ.out] at h1; exact (Option.some.inj h1).symm
          obtain ⟨g, rfl⟩ : ∃ g, ua = some ⟨g, 0, none⟩ := by
            rcases hr.2 with ⟨h1, h0⟩ | ⟨g, cap, cur, h1, _⟩
            · omega
            · simp only [Value.slice.injEq] at h1; exact ⟨g, h1.1⟩
          have hset := HB.out.setV (i := p) (by rw [hz]; exact HUQ.out) hl (by omega) (mkV ((q : Int) + 1))
          obtain ⟨w9, hw9⟩ : ∃ w9, wr.setCells g (p * 2) (mkV ((q : Int) + 1)).1 = w9 := ⟨_, rfl⟩
          rw [hw9] at hset
          have HW9 : Hid (wr.setCells g (p * 2) (mkV ((q : Int) + 1)).1 = w9) := hw9
          have H9 : Hid _ := hset.1
          have HC9 : Hid (Chg w w9 (FamB us)) := HC.out.trans hset.2
          have HI9 : Hid _ := HI.out.next hl (by omega)
          have hth : ∃ cur, wr.heap[g]? = some (.cells cur 34 (0, 0)) ∧ z * 2 ≤ cur.size := by
            rcases hr.2 with ⟨h1, h0⟩ | ⟨g', cap, cur, h1, _, hcur, hnc, _, hcs, _⟩
            · omega
            · simp only [Value.slice.injEq, Option.some.injEq, Addr.mk.injEq, and_true] at h1
              obtain ⟨rfl, _, rfl⟩ := h1
              exact ⟨cur, hcur, by rw [hcs]; rw [hz] at hnc; exact Nat.mul_le_mul_right _ hnc⟩
          have HTH : Hid (wr.there g (p * 2) 2) := by
            obtain ⟨cur, hcur, hcz⟩ := hth
            intro j hj
            have hle : (p + 1) * 2 ≤ z * 2 := Nat.mul_le_mul_right _ (by omega)
            rw [Nat.add_mul] at hle
            refine ⟨by rw [cell_of hcur, Array.getElem?_eq_getElem (show p * 2 + j < cur.size by omega)]; rfl, free_of hcur _⟩
          clear hset hth hl hr hz HI HC hw9
          go_wp2_with (first
            | (refine wpList_store_mid rfl 34 _ _ rfl g (p * 2) (mkV ((q : Int) + 1)).1.toArray rfl rfl HTH.out (by kernel_rfl) (all_oneCell_toArray (mkV ((q : Int) + 1)).2.2) ?_
               rw [show ((mkV ((q : Int) + 1)).1.toArray).toList = (mkV ((q : Int) + 1)).1 from rfl, HW9.out])
            | fail)
          exact ⟨⟨p + 1, _, by go_num, by omega, H9, HI9, HC9⟩, by simp [intOf]; omega⟩
        · obtain rfl : p = z := by omega
          have hge : ¬ (p : Int) < (p : Int) := by omega
          have HK9 : Hid (Mk mkV L1 Y (q + 1)) := HI.out.done (fun l hl => by have h1 := HI.out.toMk.at hl; rw [HLZ.out] at h1; have := Option.some.inj h1; omega)
          go_wp2_with fail
          exact ⟨⟨q + 1, Y, by go_num, by omega, HB, HK9, HC⟩, by simp [intOf]; omega⟩
    · have hqn : q = n := by omega
      have hge : ¬ (q : Int) < (n : Int) := by omega
      rw [hqn] at HK
      go_wp2_with fail
      obtain ⟨w5, hw5⟩ : ∃ w5 : World, w5 = wr := ⟨_, rfl⟩
      obtain ⟨X1, hX1⟩ : ∃ X1, X = X1 := ⟨_, rfl⟩
      subst hw5
      rw [hX1] at HB HK
      have H5 : Hid (Bo w5 B (.slice va n vc) (.slice na m nc) m1 m2 us ms X1 ns) := HB
      have HK5 : Hid (Mk mkV L1 X1 n) := HK
      have HC5 : Hid (Chg w w5 (FamB us)) := HC
      clear HB HK HC hX1 b0 b1 b2 b3 hqn hge hlt hq
      go_loopw [5] (fun k wr => ∃ (q : Nat) (X : List (List (El 4))), k = .int .i64 q ∧ q ≤ m ∧ Hid (Bo wr B (.slice va n vc) (.slice na m nc) m1 m2 us ms X1 X) ∧ Hid (Mk mkN L2 X q) ∧ Hid (Chg w5 wr (FamB ms))) (fun k _ => m - (intOf k).toNat)
      case atStart => exact ⟨0, ns, rfl, Nat.zero_le _, H5, HN0, Chg.refl _ _⟩
      case round =>
        obtain ⟨q, X, rfl, hq, HB, HK, HC⟩ := hrel
        obtain ⟨b0, b1, b2, b3⟩ := cells_4 HB.out.box
        by_cases hlt : q < m
        · have hqi : (q : Int) < (m : Int) := by omega
          obtain ⟨u, hu⟩ : ∃ u, ms[q]? = some u := ⟨ms[q]'(by rw [HM.out]; exact hlt), List.getElem?_eq_getElem _⟩
          obtain ⟨l, hl, hr⟩ := HB.out.fm.get hu
          obtain ⟨hg, hcc, hhv, hcell⟩ := HB.out.cellN hu
          rw [HM.out] at hhv
          simp only [Value.slice.injEq, true_and] at hhv
          obtain ⟨hva, -⟩ := hhv
          have HVA : Hid (na = some ⟨hg, 0, none⟩) := hva
          rw [hva] at b2
          clear hva
          obtain ⟨z, hz⟩ : ∃ z, l.length = z := ⟨_, rfl⟩
          obtain ⟨ua, uc, rfl⟩ : ∃ ua uc, u = .slice ua z uc := by
            rcases hr.2 with ⟨rfl, h0⟩ | ⟨g, cap, cur, rfl, _⟩
            · exact ⟨none, 0, by rw [← hz, h0]⟩
            · exact ⟨_, _, by rw [hz]⟩
          have hz1000 : z ≤ 1000 := HML.out z (List.mem_of_getElem? (by rw [← hz]; exact HK.out.at hl))
          have HUQ : Hid (ms[q]? = some (.slice ua z uc)) := hu
          have HLZ : Hid (L2[q]? = some z) := by have := HK.out.at hl; rw [hz] at this; exact this
          have hqw : IntKind.i64.wrap ((q : Int) + 1) = (q : Int) + 1 := by rw [IntKind.wrap_i64]; omega
          clear hu hl hr hz
          go_wp2_with fail
          go_loopw [6] (fun i wk => ∃ (p : Nat) (X : List (List (El 4))), i = .int .i64 p ∧ p ≤ z ∧ Hid (Bo wk B (.slice va n vc) (.slice na m nc) m1 m2 us ms X1 X) ∧ Hid (Mi mkN L2 X q p) ∧ Hid (Chg w5 wk (FamB ms))) (fun i _ => z - (intOf i).toNat)
          case atStart => exact ⟨0, X, rfl, Nat.zero_le _, HB, HK.out.mi, HC⟩
          case round =>
            clear b0 b1 b2 b3 hcell HB HK HC
            obtain ⟨p, Y, rfl, hp, HB, HI, HC⟩ := hrel
            obtain ⟨b0, b1, b2, b3⟩ := cells_4 HB.out.box
            obtain ⟨hg', hcc', hhv, hcell⟩ := HB.out.cellN HUQ.out
            rw [HM.out, HVA.out] at hhv
            simp only [Value.slice.injEq, true_and, Option.some.injEq, Addr.mk.injEq, and_true] at hhv
            obtain ⟨hgg, -⟩ := hhv
            rw [← hgg] at hcell
            rw [HVA.out] at b2
            clear hgg
            by_cases hltp : p < z
            · have hpi : (p : Int) < (z : Int) := by omega
              obtain ⟨l, hl, hr⟩ := HB.out.fm.get HUQ.out
              have hz : l.length = z := by have h1 := HI.out.toMk.at hl; rw [HLZ.out] at h1; exact (Option.some.inj h1).symm
              obtain ⟨g, rfl⟩ : ∃ g, ua = some ⟨g, 0, none⟩ := by
                rcases hr.2 with ⟨h1, h0⟩ | ⟨g, cap, cur, h1, _⟩
                · omega
                · simp only [Value.slice.injEq] at h1; exact ⟨g, h1.1⟩
              have hset := HB.out.setN (i := p) (by rw [hz]; exact HUQ.out) hl (by omega) (mkN ((q : Int) + 1))
              obtain ⟨w9, hw9⟩ : ∃ w9, wr.setCells g (p * 4) (mkN ((q : Int) + 1)).1 = w9 := ⟨_, rfl⟩
              rw [hw9] at hset
              have HW9 : Hid (wr.setCells g (p * 4) (mkN ((q : Int) + 1)).1 = w9) := hw9
              have H9 : Hid _ := hset.1
              have HC9 : Hid (Chg w5 w9 (FamB ms)) := HC.out.trans hset.2
              have HI9 : Hid _ := HI.out.next hl (by omega)
              have hth : ∃ cur, wr.heap[g]? = some (.cells cur 40 (0, 0)) ∧ z * 4 ≤ cur.size := by
                rcases hr.2 with ⟨h1, h0⟩ | ⟨g', cap, cur, h1, _, hcur, hnc, _, hcs, _⟩
                · omega
                · simp only [Value.slice.injEq, Option.some.injEq, Addr.mk.injEq, and_true] at h1
                  obtain ⟨rfl, _, rfl⟩ := h1
                  exact ⟨cur, hcur, by rw [hcs]; rw [hz] at hnc; exact Nat.mul_le_mul_right _ hnc⟩
              have HTH : Hid (wr.there g (p * 4) 4) := by
                obtain ⟨cur, hcur, hcz⟩ := hth
                intro j hj
                have hle : (p + 1) * 4 ≤ z * 4 := Nat.mul_le_mul_right _ (by omega)
                rw [Nat.add_mul] at hle
                refine ⟨by rw [cell_of hcur, Array.getElem?_eq_getElem (show p * 4 + j < cur.size by omega)]; rfl, free_of hcur _⟩
              clear hset hth hl hr hz HI HC hw9
              go_wp2_with (first
                | (refine wpList_store_mid rfl 40 _ _ rfl g (p * 4) (mkN ((q : Int) + 1)).1.toArray rfl rfl HTH.out (by kernel_rfl) (all_oneCell_toArray (mkN ((q : Int) + 1)).2.2) ?_
                   rw [show ((mkN ((q : Int) + 1)).1.toArray).toList = (mkN ((q : Int) + 1)).1 from rfl, HW9.out])
                | fail)
              exact ⟨⟨p + 1, _, by go_num, by omega, H9, HI9, HC9⟩, by simp [intOf]; omega⟩
            · obtain rfl : p = z := by omega
              have hge : ¬ (p : Int) < (p : Int) := by omega
              have HK9 : Hid (Mk mkN L2 Y (q + 1)) := HI.out.done (fun l hl => by have h1 := HI.out.toMk.at hl; rw [HLZ.out] at h1; have := Option.some.inj h1; omega)
              go_wp2_with fail
              exact ⟨⟨q + 1, Y, by go_num, by omega, HB, HK9, HC⟩, by simp [intOf]; omega⟩
        · have hqn : q = m := by omega
          have hge : ¬ (q : Int) < (m : Int) := by omega
          rw [hqn] at HK
          go_wp2_with fail
          exact bodyPost_end (results_none rfl _ _ _) rfl ⟨rfl, ⟨X1, X, HB.out, HK5.out, HK.out⟩, (HC5.out.mono (fun _ _ h => .inl h)).trans (HC.out.mono (fun _ _ h => .inr h))⟩
end Go.Proofs.YtbblckcjedjbcaaGreatDoor.J
