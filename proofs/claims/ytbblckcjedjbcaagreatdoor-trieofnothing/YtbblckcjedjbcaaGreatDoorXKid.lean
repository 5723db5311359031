import Derived.Test.YtbblckcjedjbcaaGreatDoorXTree
import Derived.Sort.KeysCollected
namespace Go.Proofs.YtbblckcjedjbcaaGreatDoor
open Go.RowKit Go.Maps
set_option linter.unusedVariables false
set_option linter.unusedSimpArgs false

/-- A value at one place. -/
def upd {α : Type} (f : Way → α) (p : Way) (x : α) : Way → α := fun q => if q = p then x else f q
theorem upd_same {α : Type} (f : Way → α) (p : Way) (x : α) : upd f p x p = x := by simp [upd]
theorem upd_other {α : Type} (f : Way → α) {p q : Way} (x : α) (h : q ≠ p) : upd f p x q = f q := by simp [upd, h]
theorem NdAt.lay {w : World} {y y' : Lay} {p : Way} (h : NdAt w y p) (h1 : y'.β p = y.β p) (h2 : y'.μ p = y.μ p) (h3 : y'.ρ p = y.ρ p) (h4 : y'.σ = y.σ) : NdAt w y' p := by
  unfold NdAt at *
  rw [h1, h2, h3, h4]
  exact h
/-- A list is another one. -/
theorem Tr.setRow {w w1 : World} {y : Lay} {D : List Way} {hs hs' : List He} (h : Tr w y D hs) {p : Way} (hp : p ∈ D) (v' : Value) (hc : Chg w w1 (fun k => (y.ρ p).ownBlock = some k))
    (ho : w1.ownsRow 0 91 1 v' (here hs' p).length (ptrs (here hs' p))) (ha : ∀ k, v'.ownBlock = some k → (y.ρ p).ownBlock = some k ∨ w.heap.size ≤ k)
    (hoth : ∀ q, q ≠ p → here hs' q = here hs q) (hord : Ord hs') (hheld : ∀ x ∈ hs', HdAt w x) :
    Tr (w1.setCell ⟨y.β p, 1, none⟩ v') { y with ρ := upd y.ρ p v' } D hs' := by
  have hc2 : Chg w1 (w1.setCell ⟨y.β p, 1, none⟩ v') (fun k => k = y.β p) := Chg.set _ _ _
  have hlt : y.β p < w.heap.size := by obtain ⟨c, t, hb, _⟩ := h.kβ hp; exact lt_of_blk hb
  have hρ1 : ∀ q ∈ D, q ≠ p → ∀ k, (y.ρ q).ownBlock = some k → ¬ (y.ρ p).ownBlock = some k := fun q hq hne k hk => h.rap q hq p hp hne k hk
  have hv : ∀ k, v'.ownBlock = some k → k ≠ y.β p := fun k hk e => by
    subst e
    rcases ha _ hk with e | e
    · exact h.βρ hp hp e rfl
    · omega
  refine ⟨hord, h.root, h.up, h.dn, h.sml, h.inj, fun q hq => ?_, fun q hq => ?_, fun q hq r hr hne k => ?_, fun q hq => ?_, h.map, fun x hx => ?_⟩
  · by_cases e : q = p
    · subst e
      obtain ⟨cur, h1, h2, h3, h4⟩ := (h.nd q hp).chg hc (fun e => h.βρ hp hp e rfl)
      have h1s : 1 < cur.size := (Array.getElem?_eq_some_iff.1 h3).1
      refine ⟨cur.setIfInBounds 1 v', heap_setCell_same w1 _ 1 cur _ v' h1, ?_, ?_, fun e => ?_⟩
      · rw [Array.getElem?_setIfInBounds_ne (by decide)]; exact h2
      · rw [Array.getElem?_setIfInBounds_self_of_lt h1s]; simp [upd]
      · rw [Array.getElem?_setIfInBounds_ne (by decide)]; exact h4 e
    · have h1 := ((h.nd q hq).chg hc (fun e => h.βρ hq hp e rfl)).chg hc2 (fun e' => e (h.inj q hq p hp e'))
      exact h1.lay rfl rfl (upd_other _ _ e) rfl
  · by_cases e : q = p
    · subst e
      show (w1.setCell _ _).ownsRow 0 91 1 (upd y.ρ q v' q) _ _
      rw [upd_same]
      exact owns_chg ho hc2 hv
    · show (w1.setCell _ _).ownsRow 0 91 1 (upd y.ρ p v' q) _ _
      rw [upd_other _ _ e, hoth q e]
      exact owns_chg (owns_chg (h.row q hq) hc (hρ1 q hq e)) hc2 (fun k hk e' => h.βρ hp hq hk e'.symm)
  · show (upd y.ρ p v' q).ownBlock = some k → (upd y.ρ p v' r).ownBlock ≠ some k
    by_cases e : q = p
    · subst e
      rw [upd_same, upd_other _ _ (fun e => hne e.symm)]
      intro hk hk'
      rcases ha k hk with e | e
      · exact h.rap q hq r hr hne k e hk'
      · have := ((h.row r hr).lt k hk').2
        omega
    · rw [upd_other _ _ e]
      intro hk
      by_cases e2 : r = p
      · subst e2
        rw [upd_same]
        intro hk'
        rcases ha k hk' with e | e
        · exact h.rap q hq r hr hne k hk e
        · have := ((h.row q hq).lt k hk).2
          omega
      · rw [upd_other _ _ e2]
        exact h.rap q hq r hr hne k hk
  · exact ((h.kids q hq).chg hc (fun k hk e => h.ρμ hp hq e hk rfl)).chg hc2 (fun k hk e => h.βμ hp hq hk e.symm)
  · exact ((hheld x hx).chg hc (fun e => h.hρ hp (hheld x hx) e rfl)).chg hc2 (h.hβ hp (hheld x hx))
/-- A node gets a map. -/
theorem Tr.setMap {w : World} {y : Lay} {D : List Way} {hs : List He} (h : Tr w y D hs) {p : Way} (hp : p ∈ D) (hμ : y.μ p = none) :
    Tr ((w.alloc (.map #[] 0)).setCell ⟨y.β p, 0, none⟩ (.map (some w.heap.size))) { y with μ := upd y.μ p (some w.heap.size) } D hs := by
  have hb : Below w.heap.size w (w.alloc (.map #[] 0)) := (Below.refl _ _).alloc (Nat.le_refl _) _
  have hT := h.below hb
  have hc2 : Chg (w.alloc (.map #[] 0)) ((w.alloc (.map #[] 0)).setCell ⟨y.β p, 0, none⟩ (.map (some w.heap.size))) (fun k => k = y.β p) := Chg.set _ _ _
  have hlt : y.β p < w.heap.size := by obtain ⟨c, t, hb, _⟩ := h.kβ hp; exact lt_of_blk hb
  have hno : ∀ n, p ++ [n] ∉ D := by
    rcases h.kids p hp with ⟨_, h1⟩ | ⟨b, Dm, h1, _⟩
    · exact h1
    · rw [hμ] at h1; cases h1
  refine ⟨h.ord, h.root, h.up, h.dn, h.sml, h.inj, fun q hq => ?_, fun q hq => ?_, h.rap, fun q hq => ?_, fun q hq r hr hne k => ?_, fun x hx => ?_⟩
  · by_cases e : q = p
    · subst e
      obtain ⟨cur, h1, h2, h3, h4⟩ := hT.nd q hp
      have h1s : 0 < cur.size := (Array.getElem?_eq_some_iff.1 h2).1
      refine ⟨cur.setIfInBounds 0 (.map (some w.heap.size)), heap_setCell_same _ _ 0 cur _ _ h1, ?_, ?_, fun e => ?_⟩
      · rw [Array.getElem?_setIfInBounds_self_of_lt h1s]; simp [upd]
      · rw [Array.getElem?_setIfInBounds_ne (by decide)]; exact h3
      · rw [Array.getElem?_setIfInBounds_ne (by decide)]; exact h4 e
    · exact ((hT.nd q hq).chg hc2 (fun e' => e (h.inj q hq p hp e'))).lay rfl (upd_other _ _ e) rfl rfl
  · exact owns_chg (hT.row q hq) hc2 (fun k hk e' => h.βρ hp hq hk e'.symm)
  · show KidsAt _ (upd y.μ p (some w.heap.size) q) q D y.β
    by_cases e : q = p
    · subst e
      rw [upd_same]
      refine .inr ⟨w.heap.size, .map [], rfl, ?_, Maps.tidy_empty, ⟨[], rfl, fun p hp => by cases hp⟩, fun n => ?_, fun n z hn => absurd hn (hno n)⟩
      · exact map_chg (World.ownsMap_made w _ 9 raw) hc2 (by omega)
      · constructor
        · intro h; cases h
        · intro h; exact absurd h (hno n)
    · rw [upd_other _ _ e]
      exact (hT.kids q hq).chg hc2 (fun k hk e => h.βμ hp hq hk e.symm)
  · show upd y.μ p (some w.heap.size) q = some k → upd y.μ p (some w.heap.size) r ≠ some k
    have hlm : ∀ q ∈ D, y.μ q ≠ some w.heap.size := fun q hq e => by
      obtain ⟨es, c, hb⟩ := h.kμ hq e
      exact Nat.lt_irrefl _ (lt_of_blk hb)
    by_cases e : q = p
    · subst e
      rw [upd_same, upd_other _ _ (fun e => hne e.symm)]
      intro hk
      cases hk
      exact hlm r hr
    · rw [upd_other _ _ e]
      intro hk
      by_cases e2 : r = p
      · subst e2
        rw [upd_same]
        intro hk'
        cases hk'
        exact hlm q hq hk
      · rw [upd_other _ _ e2]
        exact h.map q hq r hr hne k hk
  · exact (hT.held x hx).chg hc2 (h.hβ hp (h.held x hx))
/-- A new node. -/
theorem Tr.newKid {w w3 : World} {y : Lay} {D : List Way} {hs : List He} (h : Tr w y D hs) {p : Way} (hp : p ∈ D) {n : ByteArray} (hn : p ++ [n] ∉ D) (hns : n.size ≤ 1000) {mb nb : Nat} {Dm : DataW Value} (hμ : y.μ p = some mb) (hkr : KR Dm p D y.β)
    (hnew : w.heap.size ≤ nb) (hnb : w3.heap[nb]? = some (.cells #[.map none, .slice none 0 0] 78 (0, 0))) (hc : Chg w w3 (fun k => k = mb)) (hm : MapAt w3 mb (Maps.size (Dm.put (ky n) (.held (ndV nb)))) (Dm.put (ky n) (.held (ndV nb))))
    (hway : ∀ x ∈ hs, x.way ∈ D) :
    Tr w3 { y with β := upd y.β (p ++ [n]) nb, μ := upd y.μ (p ++ [n]) none, ρ := upd y.ρ (p ++ [n]) (.slice none 0 0) } (D ++ [p ++ [n]]) hs := by
  have hne : ∀ q ∈ D, q ≠ p ++ [n] := fun q hq e => hn (e ▸ hq)
  have hnr : p ++ [n] ≠ [] := by simp
  have hβlt : ∀ q ∈ D, y.β q < w.heap.size := fun q hq => by obtain ⟨c, t, hb, _⟩ := h.kβ hq; exact lt_of_blk hb
  have hmem : ∀ q, q ∈ D ++ [p ++ [n]] ↔ q ∈ D ∨ q = p ++ [n] := fun q => by simp
  have hhere : here hs (p ++ [n]) = [] := by
    unfold here
    rw [List.filter_eq_nil_iff]
    intro x hx e
    have e' : x.way = p ++ [n] := by simpa using e
    exact hn (e' ▸ hway x hx)
  refine ⟨h.ord, (hmem _).2 (.inl h.root), fun q m hq => ?_, ?_, fun q hq => ?_, fun q hq r hr => ?_, fun q hq => ?_, fun q hq => ?_, fun q hq r hr hqr k => ?_, fun q hq => ?_, fun q hq r hr hqr k => ?_, fun x hx => ?_⟩
  · rcases (hmem _).1 hq with hq | hq
    · exact (hmem _).2 (.inl (h.up q m hq))
    · obtain ⟨rfl, _⟩ := List.append_inj' hq rfl
      exact (hmem _).2 (.inl hp)
  · rw [List.nodup_append]
    refine ⟨h.dn, by simp, fun a ha b hb e => ?_⟩
    have : b = p ++ [n] := by simpa using hb
    exact hne a ha (e.trans this)
  · rcases (hmem _).1 hq with hq | rfl
    · exact h.sml q hq
    · intro m hm'
      rcases List.mem_append.1 hm' with h1 | h1
      · exact h.sml p hp m h1
      · have : m = n := by simpa using h1
        rw [this]; exact hns
  · show upd y.β (p ++ [n]) nb q = upd y.β (p ++ [n]) nb r → q = r
    rcases (hmem _).1 hq with hq | rfl
    · rw [upd_other _ _ (hne q hq)]
      rcases (hmem _).1 hr with hr | rfl
      · rw [upd_other _ _ (hne r hr)]
        exact h.inj q hq r hr
      · rw [upd_same]
        intro e
        have := hβlt q hq
        omega
    · rw [upd_same]
      rcases (hmem _).1 hr with hr | rfl
      · rw [upd_other _ _ (hne r hr)]
        intro e
        have := hβlt r hr
        omega
      · intro _; rfl
  · rcases (hmem _).1 hq with hq | rfl
    · exact ((h.nd q hq).chg hc (fun e => h.βμ hq hp hμ e)).lay (upd_other _ _ (hne q hq)) (upd_other _ _ (hne q hq)) (upd_other _ _ (hne q hq)) rfl
    · refine ⟨#[.map none, .slice none 0 0], ?_, ?_, ?_, fun e => absurd e hnr⟩
      · show w3.heap[upd y.β (p ++ [n]) nb (p ++ [n])]? = _
        rw [upd_same, if_neg hnr]
        exact hnb
      · simp [upd]
      · simp [upd]
  · show w3.ownsRow 0 91 1 (upd y.ρ (p ++ [n]) (.slice none 0 0) q) _ _
    rcases (hmem _).1 hq with hq | rfl
    · rw [upd_other _ _ (hne q hq)]
      exact owns_chg (h.row q hq) hc (fun k hk e => h.ρμ hq hp hk hμ e)
    · rw [upd_same, hhere]
      exact World.ownsRow_nil _ _ _ _
  · show (upd y.ρ (p ++ [n]) (.slice none 0 0) q).ownBlock = some k → (upd y.ρ (p ++ [n]) (.slice none 0 0) r).ownBlock ≠ some k
    rcases (hmem _).1 hq with hq | rfl
    · rw [upd_other _ _ (hne q hq)]
      rcases (hmem _).1 hr with hr | rfl
      · rw [upd_other _ _ (hne r hr)]
        exact h.rap q hq r hr hqr k
      · rw [upd_same]
        intro _ e
        cases e
    · rw [upd_same]
      intro e
      cases e
  · show KidsAt w3 (upd y.μ (p ++ [n]) none q) q (D ++ [p ++ [n]]) (upd y.β (p ++ [n]) nb)
    rcases (hmem _).1 hq with hq | rfl
    · rw [upd_other _ _ (hne q hq)]
      by_cases e : q = p
      · subst e
        rw [hμ]
        refine .inr ⟨mb, _, rfl, hm, hkr.tidy.put (kyX_lit _) _, hkr.str.put _ _, fun m => ?_, fun m z hm' => ?_⟩
        · rw [hmem]
          by_cases e : m = n
          · subst e
            rw [Maps.has_put_same hkr.str.isMap (kyX_lit _)]
            simp
          · rw [Maps.has_put_other (fun e' => e (kyX_inj e')), hkr.has m]
            constructor
            · exact .inl
            · rintro (h1 | h1)
              · exact h1
              · exact absurd (by simpa using h1) e
        · by_cases e : m = n
          · subst e
            rw [upd_same]
            exact Maps.atKey_put_same hkr.str.isMap (kyX_lit _) _ _
          · have hm2 : q ++ [m] ∈ D := by
              rcases (hmem _).1 hm' with h1 | h1
              · exact h1
              · exact absurd (by simpa using h1) e
            rw [Maps.atKey_put_other (fun e' => e (kyX_inj e')), upd_other _ _ (hne _ hm2)]
            exact hkr.look m z hm2
      · rcases h.kids q hq with ⟨h1, h2⟩ | ⟨b, Dq, h1, h2, h3⟩
        · refine .inl ⟨h1, fun m hm' => ?_⟩
          rcases (hmem _).1 hm' with h4 | h4
          · exact h2 m h4
          · exact e (List.append_inj' h4 rfl).1
        · refine .inr ⟨b, Dq, h1, map_chg h2 hc (fun e' => h.map q hq p hp e b h1 (by rw [e']; exact hμ)), h3.tidy, h3.str, fun m => ?_, fun m z hm' => ?_⟩
          · rw [h3.has m, hmem]
            constructor
            · exact .inl
            · rintro (h4 | h4)
              · exact h4
              · exact absurd (List.append_inj' h4 rfl).1 e
          · have hm2 : q ++ [m] ∈ D := by
              rcases (hmem _).1 hm' with h4 | h4
              · exact h4
              · exact absurd (List.append_inj' h4 rfl).1 e
            rw [upd_other _ _ (hne _ hm2)]
            exact h3.look m z hm2
    · rw [upd_same]
      refine .inl ⟨rfl, fun m hm' => ?_⟩
      rcases (hmem _).1 hm' with h4 | h4
      · exact hn (h.up _ m h4)
      · have := congrArg List.length h4
        simp at this
  · show upd y.μ (p ++ [n]) none q = some k → upd y.μ (p ++ [n]) none r ≠ some k
    rcases (hmem _).1 hq with hq | rfl
    · rw [upd_other _ _ (hne q hq)]
      rcases (hmem _).1 hr with hr | rfl
      · rw [upd_other _ _ (hne r hr)]
        exact h.map q hq r hr hqr k
      · rw [upd_same]
        intro _ e
        cases e
    · rw [upd_same]
      intro e
      cases e
  · exact (h.held x hx).chg hc (h.hμ hp (h.held x hx) hμ)
end Go.Proofs.YtbblckcjedjbcaaGreatDoor
namespace Go.Proofs.YtbblckcjedjbcaaGreatDoor
open Go.RowKit Go.Maps Go.WideShapes
set_option linter.unusedVariables false
set_option linter.unusedSimpArgs false

theorem zeroNd (w : World) : (zeroValue 120).run Tryz.prog w = .ok (.pointer none) w := by kernel_rfl
theorem keyS {n : ByteArray} (h : n.size ≤ 1000) : keyOf Tryz.prog 9 (.string n) = some (ky n) := WideMaps.keyOf_string_mk Tryz.underlying9 (by unfold maxLen; omega)
theorem chgTurned {w w' : World} {b : Nat} (h : w.mapTurned w' b) : Chg w w' (fun j => j = b) := by
  have g := h.grown
  exact ⟨g.os, g.tape, g.output, g.size, fun i h1 hi => g.block i h1 (fun e => hi (by cases e; rfl))⟩
theorem tightX {P : Program} {w : World} {b n : Nat} {t : TypeId} {D : DataW Value} (h : w.ownsMap P t raw b n D) : w.ownsMap P t raw b (Maps.size D) D := by
  obtain ⟨es, clock, hb, F, hs, rfl⟩ := h
  exact ⟨es, clock, hb, F, by simp [Maps.size, length_sorted], rfl⟩
/-- Whether a node is there. -/
def inD (D : List Way) (q : Way) : Bool := D.any (fun r => decide (r = q))
theorem inD_iff {D : List Way} {q : Way} : inD D q = true ↔ q ∈ D := by
  unfold inD
  rw [List.any_eq_true]
  simp
theorem inD_not {D : List Way} {q : Way} (h : q ∉ D) : inD D q = false := by
  rw [Bool.eq_false_iff]
  exact fun e => h (inD_iff.1 e)
/-- What a look-up gives. -/
def kidV (p : Way) (D : List Way) (β : Way → Nat) (n : ByteArray) : Value := if inD D (p ++ [n]) then ndV (β (p ++ [n])) else .pointer none
theorem KR.at {Dm : DataW Value} {p : Way} {D : List Way} {β : Way → Nat} (h : KR Dm p D β) (n : ByteArray) {v : Value} {ps : List MemPlace} (hv : raw v = some (Dm.atKey (ky n) (.held (.pointer none)), ps)) : v = kidV p D β n := by
  unfold kidV
  by_cases hn : p ++ [n] ∈ D
  · rw [if_pos (inD_iff.2 hn)]
    rw [h.look n _ hn] at hv
    exact raw_inv hv
  · rw [if_neg (by rw [inD_not hn]; decide)]
    rw [Maps.atKey_of_not_has (by
      rw [Bool.eq_false_iff]
      intro e
      exact hn ((h.has n).1 e))] at hv
    exact raw_inv hv
theorem KR.hasB {Dm : DataW Value} {p : Way} {D : List Way} {β : Way → Nat} (h : KR Dm p D β) (n : ByteArray) : Maps.has Dm (ky n) = inD D (p ++ [n]) := by
  rw [Bool.eq_iff_iff, h.has n, inD_iff]
theorem KidsAt.look {w : World} {m : Option Nat} {p : Way} {D : List Way} {β : Way → Nat} (h : KidsAt w m p D β) {n : ByteArray} (hn : n.size ≤ 1000) : (Instr.lookup 74 (.map m) (.string n) true).run Tryz.prog w = .ok (.tuple #[kidV p D β n, .bool (inD D (p ++ [n]))]) w := by
  rcases h with ⟨rfl, h2⟩ | ⟨b, Dm, rfl, h2, h3⟩
  · rw [Maps.look_nil true keyed Tryz.underlying74 (zeroNd w) (keyS hn)]
    unfold kidV
    rw [inD_not (h2 n)]
    rfl
  · obtain ⟨v, ps, hrun, hv⟩ := h2.look_ok keyed Tryz.underlying74 (zeroNd w) (zd := .held (.pointer none)) (zp := []) rfl (keyS hn)
    rw [hrun, h3.hasB, h3.at n hv]
theorem KidsAt.get {w : World} {m : Option Nat} {p : Way} {D : List Way} {β : Way → Nat} (h : KidsAt w m p D β) {n : ByteArray} (hn : n.size ≤ 1000) : (Instr.lookup 74 (.map m) (.string n) false).run Tryz.prog w = .ok (kidV p D β n) w := by
  rcases h with ⟨rfl, h2⟩ | ⟨b, Dm, rfl, h2, h3⟩
  · rw [Maps.look_nil false keyed Tryz.underlying74 (zeroNd w) (keyS hn)]
    unfold kidV
    rw [inD_not (h2 n)]
    rfl
  · obtain ⟨v, ps, hrun, hv⟩ := h2.lookup keyed Tryz.underlying74 (zeroNd w) (zd := .held (.pointer none)) (zp := []) rfl (keyS hn)
    rw [hrun, h3.at n hv]
/-- A kid more in the map. -/
theorem kids_put {w : World} {b : Nat} {Dm : DataW Value} (h : MapAt w b (Maps.size Dm) Dm) (hsz : Maps.size Dm ≤ 1000000) {n : ByteArray} (hn : n.size ≤ 1000) (nb : Nat) :
    ∃ w', (Instr.mapUpdate 74 (.map (some b)) (.string n) (ndV nb)).run Tryz.prog w = .ok () w' ∧ MapAt w' b (Maps.size (Dm.put (ky n) (.held (ndV nb)))) (Dm.put (ky n) (.held (ndV nb))) ∧ Chg w w' (fun k => k = b) := by
  obtain ⟨w', hrun, ho, ht'⟩ := h.store keyed Tryz.underlying74 (by unfold maxLen; omega) (keyS hn) (val := ndV nb) (d := .held (ndV nb)) (ps := []) rfl
  exact ⟨w', hrun, tightX ho, chgTurned ht'⟩
theorem kids_del {w : World} {b : Nat} {Dm : DataW Value} (h : MapAt w b (Maps.size Dm) Dm) {n : ByteArray} (hn : n.size ≤ 1000) (ty : TypeId) :
    ∃ w', (Builtin.delete_ #[74, 9] ty #[.map (some b), .string n]).run Tryz.prog w = .ok (.tuple #[]) w' ∧ MapAt w' b (Maps.size (Dm.del (ky n))) (Dm.del (ky n)) ∧ Chg w w' (fun k => k = b) := by
  obtain ⟨w', hrun, ho, ht'⟩ := h.drop keyed Tryz.underlying74 (keyS hn) ty
  exact ⟨w', hrun, tightX ho, chgTurned ht'⟩
/-- The last name of a way, if the others are p. -/
def lastOf (p q : Way) : Option ByteArray := match q.getLast? with | some n => if q = p ++ [n] then some n else none | none => none
theorem lastOf_iff {p q : Way} {n : ByteArray} : lastOf p q = some n ↔ q = p ++ [n] := by
  unfold lastOf
  constructor
  · intro h
    split at h
    · split at h
      · rename_i e
        cases h
        exact e
      · cases h
    · cases h
  · rintro rfl
    simp
/-- The names of the kids of a place. -/
def kidsOf (D : List Way) (p : Way) : List ByteArray := D.filterMap (lastOf p)
theorem kids_mem {D : List Way} {p : Way} {n : ByteArray} : n ∈ kidsOf D p ↔ p ++ [n] ∈ D := by
  unfold kidsOf
  rw [List.mem_filterMap]
  constructor
  · rintro ⟨q, hq, h⟩
    rw [lastOf_iff.1 h] at hq
    exact hq
  · intro h
    exact ⟨_, h, lastOf_iff.2 rfl⟩
theorem kids_nodup {D : List Way} (h : D.Nodup) (p : Way) : (kidsOf D p).Nodup := by
  unfold kidsOf
  induction D with
  | nil => exact List.nodup_nil
  | cons a r ih =>
    obtain ⟨h1, h2⟩ := List.nodup_cons.1 h
    rw [List.filterMap_cons]
    cases e : lastOf p a with
    | none => exact ih h2
    | some n =>
      refine List.nodup_cons.2 ⟨fun hm => ?_, ih h2⟩
      have := kids_mem.1 hm
      rw [← lastOf_iff.1 e] at this
      exact h1 this
theorem kids_len (D : List Way) (p : Way) : (kidsOf D p).length ≤ D.length := List.length_filterMap_le _ _
theorem KR.keys {Dm : DataW Value} {p : Way} {D : List Way} {β : Way → Nat} (h : KR Dm p D β) (hd : D.Nodup) : ((kidsOf D p).map (fun n => n.data.toList)).Perm (strKeys Dm) := by
  obtain ⟨es, rfl, hs⟩ := h.str
  obtain ⟨es', e, hp⟩ := h.tidy
  obtain rfl : es = es' := by simpa using e
  refine perm_strKeys hp hs ?_ (fun l => ?_)
  · exact List.Pairwise.map _ (fun a b hab e => hab (ByteArray.ext (Array.ext' e))) (kids_nodup hd p)
  · have h1 := h.has ⟨l.toArray⟩
    have e : ky ⟨l.toArray⟩ = .string l := by simp [ky]
    rw [e] at h1
    rw [h1, ← kids_mem]
    constructor
    · intro hl
      obtain ⟨x, hx, rfl⟩ := List.mem_map.1 hl
      have : (⟨x.data.toList.toArray⟩ : ByteArray) = x := ByteArray.ext (by simp)
      rw [this]
      exact hx
    · intro hx
      exact List.mem_map.2 ⟨_, hx, by simp⟩
theorem sizeKeys {H : Type} (D : DataW H) : (strKeys D).length = Maps.size D := by
  cases D <;> simp [strKeys, Maps.size]
theorem KR.size {Dm : DataW Value} {p : Way} {D : List Way} {β : Way → Nat} (h : KR Dm p D β) (hd : D.Nodup) : Maps.size Dm = (kidsOf D p).length := by
  rw [← sizeKeys, ← (h.keys hd).length_eq, List.length_map]
theorem eqMapNil (w : World) (mb : Nat) (n : Nat) : (Op.equalIn (n + 1) 74 (.map (some mb)) (.map none)).run Tryz.prog w = .ok false w := by
  simp [Op.equalIn, run_underlying Tryz.underlying74]
theorem eqlMapNil (w : World) (mb : Nat) : (binOp .eql 74 (.map (some mb)) (.map none)).run Tryz.prog w = .ok (.bool false) w := by
  simp only [binOp]
  simp [Op.equal, Op.maxDepth, eqMapNil]
theorem eqNilNil (w : World) (n : Nat) : (Op.equalIn (n + 1) 74 (.map none) (.map none)).run Tryz.prog w = .ok true w := by
  simp [Op.equalIn, run_underlying Tryz.underlying74]
theorem eqlNilNil (w : World) : (binOp .eql 74 (.map none) (.map none)).run Tryz.prog w = .ok (.bool true) w := by
  simp only [binOp]
  simp [Op.equal, Op.maxDepth, eqNilNil]
end Go.Proofs.YtbblckcjedjbcaaGreatDoor
