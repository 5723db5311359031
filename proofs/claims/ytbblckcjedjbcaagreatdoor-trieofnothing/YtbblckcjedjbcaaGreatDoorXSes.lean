/-
  trie: the sessions' lists; a whole trie.
-/
import Derived.Test.YtbblckcjedjbcaaGreatDoorXAdd
namespace Go.Proofs.YtbblckcjedjbcaaGreatDoor
open Go.RowKit Go.Maps Go.WideShapes
set_option linter.unusedVariables false
set_option linter.unusedSimpArgs false

abbrev kyN (n : Int) : Lit := .int .i64 n
theorem kyN_ne {a b : Int} (h : a ≠ b) : kyN a ≠ kyN b := fun e => h (by simpa [kyN] using e)
theorem keyedN : Keyed Tryz.prog 3 := int_keyed Tryz.underlying3
theorem keyN {n : Int} (h : (Lit.int .i64 n).wf = true) : keyOf Tryz.prog 3 (.int .i64 n) = some (kyN n) := keyOf_int_mk Tryz.underlying3 h
theorem kyN_lit (n : Int) : WideAt.IsKeyLit (kyN n) := trivial
/-- The watches of a session. -/
def ofS (hs : List He) (s : Int) : List He := hs.filter (fun h => decide (h.s = s))
theorem ofS_mem {hs : List He} {s : Int} {h : He} : h ∈ ofS hs s ↔ h ∈ hs ∧ h.s = s := by simp [ofS]
theorem ofS_none {hs : List He} {s : Int} (h : ∀ x ∈ hs, x.s ≠ s) : ofS hs s = [] := by
  unfold ofS
  rw [List.filter_eq_nil_iff]
  intro x hx
  simp [h x hx]
/-- How many keys a map by numbers has. -/
def Siz (Dm : DataW Value) : Prop := ∃ ks : List Int, ks.Nodup ∧ (∀ s, s ∈ ks ↔ Maps.has Dm (kyN s) = true) ∧ Maps.size Dm = ks.length
theorem Siz.put {Dm : DataW Value} (h : Siz Dm) (ht : Tidy Dm) (s : Int) (d : DataW Value) : Siz (Dm.put (kyN s) d) := by
  obtain ⟨ks, h1, h2, h3⟩ := h
  have hp : ∀ t, Maps.has (Dm.put (kyN s) d) (kyN t) = true ↔ t = s ∨ Maps.has Dm (kyN t) = true := fun t => by
    by_cases e : t = s
    · subst e
      rw [Maps.has_put_same ht.isMap (kyN_lit _)]
      simp
    · rw [Maps.has_put_other (kyN_ne e)]
      simp [e]
  by_cases hs : s ∈ ks
  · refine ⟨ks, h1, fun t => ?_, ?_⟩
    · rw [hp, h2]
      constructor
      · exact .inr
      · rintro (rfl | h)
        · exact (h2 _).1 hs
        · exact h
    · rw [Maps.size_put ht, (h2 s).1 hs, h3]
      rfl
  · refine ⟨ks ++ [s], ?_, fun t => ?_, ?_⟩
    · rw [List.nodup_append]
      refine ⟨h1, by simp, fun a ha b hb e => ?_⟩
      have hb' : b = s := by simpa using hb
      rw [e, hb'] at ha
      exact hs ha
    · rw [hp, List.mem_append, h2]
      simp only [List.mem_singleton]
      exact Or.comm
    · have hn : Maps.has Dm (kyN s) = false := by rw [Bool.eq_false_iff]; exact fun e => hs ((h2 s).2 e)
      rw [Maps.size_put ht, hn, h3, List.length_append]
      rfl
theorem Siz.del {Dm : DataW Value} (h : Siz Dm) (ht : Tidy Dm) (s : Int) : Siz (Dm.del (kyN s)) := by
  obtain ⟨ks, h1, h2, h3⟩ := h
  refine ⟨ks.filter (fun t => decide (t ≠ s)), List.Pairwise.filter _ h1, fun t => ?_, ?_⟩
  · rw [List.mem_filter, h2]
    by_cases e : t = s
    · subst e
      rw [Maps.has_del_same]
      simp
    · rw [Maps.has_del_other (kyN_ne e)]
      simp [e]
  · have h4 := Maps.size_del ht (k := kyN s)
    by_cases hs : s ∈ ks
    · rw [(h2 s).1 hs, h3] at h4
      have h5 : (ks.filter (fun t => decide (t ≠ s))).length + 1 = ks.length := by
        clear h2 h3 h4
        induction ks with
        | nil => cases hs
        | cons a r ih =>
          obtain ⟨h6, h7⟩ := List.nodup_cons.1 h1
          by_cases e : a = s
          · subst e
            have : r.filter (fun t => decide (t ≠ a)) = r := by
              rw [List.filter_eq_self]
              intro x hx
              have : x ≠ a := fun e => h6 (e ▸ hx)
              simp [this]
            rw [List.filter_cons, this]
            simp
          · have hr : s ∈ r := by
              rcases List.mem_cons.1 hs with h | h
              · exact absurd h.symm e
              · exact h
            rw [List.filter_cons, if_pos (by simp [e])]
            have := ih h7 hr
            simp only [List.length_cons]
            omega
      simp at h4
      omega
    · have hn : Maps.has Dm (kyN s) = false := by rw [Bool.eq_false_iff]; exact fun e => hs ((h2 s).2 e)
      have h5 : ks.filter (fun t => decide (t ≠ s)) = ks := by
        rw [List.filter_eq_self]
        intro x hx
        have : x ≠ s := fun e => hs (e ▸ hx)
        simp [this]
      rw [h5, ← h3]
      rw [hn] at h4
      simpa using h4
/-- A map holds just the sessions that have watches. -/
structure SR (Dm : DataW Value) (τ : Int → Value) (hs : List He) : Prop where
  tidy : Tidy Dm
  has : ∀ s, Maps.has Dm (kyN s) = true ↔ ∃ h ∈ hs, h.s = s
  look : ∀ s z, (∃ h ∈ hs, h.s = s) → Dm.atKey (kyN s) z = .held (τ s)
  siz : Siz Dm
theorem SR.size {Dm : DataW Value} {τ : Int → Value} {hs : List He} (h : SR Dm τ hs) : Maps.size Dm ≤ hs.length := by
  obtain ⟨ks, h1, h2, h3⟩ := h.siz
  rw [h3]
  have hsub : ks ⊆ hs.map He.s := fun s hs' => by
    obtain ⟨x, hx, e⟩ := (h.has s).1 ((h2 s).1 hs')
    exact List.mem_map.2 ⟨x, hx, e⟩
  have := List.Nodup.length_le_of_subset h1 hsub
  rwa [List.length_map] at this
structure SesAt (w : World) (σ : Option Nat) (τ : Int → Value) (hs : List He) : Prop where
  row : ∀ s, w.ownsRow 0 91 1 (τ s) (ofS hs s).length (ptrs (ofS hs s))
  rap : ∀ s t, s ≠ t → ∀ k, (τ s).ownBlock = some k → (τ t).ownBlock ≠ some k
  nil : ∀ s, (∀ h ∈ hs, h.s ≠ s) → τ s = .slice none 0 0
  map : (σ = none ∧ hs = []) ∨ ∃ b Dm, σ = some b ∧ w.ownsMap Tryz.prog 3 raw b (Maps.size Dm) Dm ∧ SR Dm τ hs
def Sf (σ : Option Nat) (τ : Int → Value) (k : Nat) : Prop := σ = some k ∨ ∃ s, (τ s).ownBlock = some k
theorem mapN_chg {w w' : World} {b n : Nat} {D : DataW Value} {S : Nat → Prop} (h : w.ownsMap Tryz.prog 3 raw b n D) (hc : Chg w w' S) (hs : ¬ S b) : w'.ownsMap Tryz.prog 3 raw b n D := by
  have hl := h.lt
  obtain ⟨es, clock, hb, r⟩ := h
  exact ⟨es, clock, by rw [hc.block b hl hs]; exact hb, r⟩
theorem SesAt.chg {w w' : World} {σ : Option Nat} {τ : Int → Value} {hs : List He} {S : Nat → Prop} (h : SesAt w σ τ hs) (hc : Chg w w' S) (hS : ∀ k, Sf σ τ k → ¬ S k) : SesAt w' σ τ hs :=
  ⟨fun s => owns_chg (h.row s) hc (fun k hk => hS k (.inr ⟨s, hk⟩)), h.rap, h.nil, h.map.imp id (fun ⟨b, Dm, h1, h2, h3⟩ => ⟨b, Dm, h1, mapN_chg h2 hc (hS b (.inl h1)), h3⟩)⟩
theorem SesAt.below {w w' : World} {σ : Option Nat} {τ : Int → Value} {hs : List He} (h : SesAt w σ τ hs) (hb : Below w.heap.size w w') : SesAt w' σ τ hs := h.chg (Chg.of_below hb (fun _ => False)) (fun _ _ => id)
theorem SesAt.kτ {w : World} {σ : Option Nat} {τ : Int → Value} {hs : List He} (h : SesAt w σ τ hs) {s : Int} {k : Nat} (hk : (τ s).ownBlock = some k) : ∃ cur, w.heap[k]? = some (.cells cur 91 (0, 0)) := owns_kind (h.row s) hk
theorem SesAt.kσ {w : World} {σ : Option Nat} {τ : Int → Value} {hs : List He} (h : SesAt w σ τ hs) {k : Nat} (hk : σ = some k) : ∃ es c, w.heap[k]? = some (.map es c) := by
  rcases h.map with ⟨h1, _⟩ | ⟨b, Dm, h1, h2, _⟩
  · rw [h1] at hk; cases hk
  · rw [h1] at hk
    cases hk
    obtain ⟨es, c, hb, _⟩ := h2
    exact ⟨es, c, hb⟩
theorem SesAt.lt {w : World} {σ : Option Nat} {τ : Int → Value} {hs : List He} (h : SesAt w σ τ hs) {k : Nat} (hk : Sf σ τ k) : k < w.heap.size := by
  rcases hk with hk | ⟨s, hk⟩
  · obtain ⟨es, c, h1⟩ := h.kσ hk
    exact lt_of_blk h1
  · obtain ⟨cur, h1⟩ := h.kτ hk
    exact lt_of_blk h1
theorem zeroSl (w : World) : (zeroValue 76).run Tryz.prog w = .ok (.slice none 0 0) w := by kernel_rfl
theorem SesAt.get {w : World} {σ : Option Nat} {τ : Int → Value} {hs : List He} (h : SesAt w σ τ hs) {s : Int} (hwf : (Lit.int .i64 s).wf = true) : (Instr.lookup 79 (.map σ) (.int .i64 s) false).run Tryz.prog w = .ok (τ s) w := by
  rcases h.map with ⟨rfl, rfl⟩ | ⟨b, Dm, rfl, h2, h3⟩
  · rw [Maps.look_nil false keyedN Tryz.underlying79 (zeroSl w) (keyN hwf), h.nil s (fun x hx => by cases hx)]
    rfl
  · obtain ⟨v, ps, hrun, hv⟩ := h2.lookup keyedN Tryz.underlying79 (zeroSl w) (zd := .held (.slice none 0 0)) (zp := []) rfl (keyN hwf)
    rw [hrun]
    by_cases hx : ∃ x ∈ hs, x.s = s
    · rw [h3.look s _ hx] at hv
      rw [raw_inv hv]
    · rw [Maps.atKey_of_not_has (by
        rw [Bool.eq_false_iff]
        intro e
        exact hx ((h3.has s).1 e))] at hv
      rw [raw_inv hv, h.nil s (fun x hx' e => hx ⟨x, hx', e⟩)]
theorem SesAt.hl {w : World} {σ : Option Nat} {τ : Int → Value} {hs : List He} (h : SesAt w σ τ hs) (hh : ∀ x ∈ hs, HdAt w x) (s : Int) : ∃ a c, τ s = .slice a (ofS hs s).length c ∧ Hl w a c (ofS hs s) := by
  have hr := h.row s
  have hh : ∀ x ∈ ofS hs s, HdAt w x := fun x hx => hh x (ofS_mem.1 hx).1
  rcases hr.2 with ⟨h0, h1⟩ | ⟨g, cap, cur, hv, r⟩
  · refine ⟨none, 0, by rw [h0, h1], ?_, hh⟩
    rw [h1]
    rw [h0, h1] at hr
    exact hr
  · refine ⟨some ⟨g, 0, none⟩, cap, hv, ?_, hh⟩
    rw [hv] at hr
    exact hr
/-- A value for one session. -/
def updI {α : Type} (f : Int → α) (p : Int) (x : α) : Int → α := fun q => if q = p then x else f q
theorem updI_same {α : Type} (f : Int → α) (p : Int) (x : α) : updI f p x p = x := by simp [updI]
theorem updI_other {α : Type} (f : Int → α) {p q : Int} (x : α) (h : q ≠ p) : updI f p x q = f q := by simp [updI, h]
/-- A session's list is another one, and is put into the map. -/
theorem SesAt.put {w w1 : World} {σ : Option Nat} {τ : Int → Value} {hs hs' : List He} (h : SesAt w σ τ hs) {b : Nat} {Dm : DataW Value} (hσ : σ = some b) (hm : w.ownsMap Tryz.prog 3 raw b (Maps.size Dm) Dm) (hsr : SR Dm τ hs) (hsz : Maps.size Dm ≤ 1000000) {s : Int} (hwf : (Lit.int .i64 s).wf = true) (v' : Value)
    (hc : Chg w w1 (fun k => (τ s).ownBlock = some k)) (ho : w1.ownsRow 0 91 1 v' (ofS hs' s).length (ptrs (ofS hs' s))) (ha : ∀ k, v'.ownBlock = some k → (τ s).ownBlock = some k ∨ w.heap.size ≤ k)
    (hoth : ∀ t, t ≠ s → ofS hs' t = ofS hs t) (hin : ∃ x ∈ hs', x.s = s) :
    ∃ w2, (Instr.mapUpdate 79 (.map (some b)) (.int .i64 s) v').run Tryz.prog w1 = .ok () w2 ∧ SesAt w2 (some b) (updI τ s v') hs' ∧ Chg w1 w2 (fun k => k = b) := by
  have hbτ : ∀ t k, (τ t).ownBlock = some k → k ≠ b := fun t k hk e => by
    subst e
    obtain ⟨cur, h1⟩ := h.kτ hk
    obtain ⟨es, c, h2⟩ := h.kσ hσ
    rw [h1] at h2
    cases h2
  have hm1 := mapN_chg hm hc (fun e => hbτ s b e rfl)
  obtain ⟨w2, hrun, ho2, ht2⟩ := hm1.store keyedN Tryz.underlying79 (by unfold maxLen; omega) (keyN hwf) (val := v') (d := .held v') (ps := []) rfl
  have hc2 := chgTurned ht2
  have hmem : ∀ t, t ≠ s → ((∃ x ∈ hs', x.s = t) ↔ ∃ x ∈ hs, x.s = t) := fun t ht => by
    have e := hoth t ht
    constructor
    · rintro ⟨x, hx, rfl⟩
      have : x ∈ ofS hs' x.s := ofS_mem.2 ⟨hx, rfl⟩
      rw [e] at this
      exact ⟨x, (ofS_mem.1 this).1, rfl⟩
    · rintro ⟨x, hx, rfl⟩
      have : x ∈ ofS hs x.s := ofS_mem.2 ⟨hx, rfl⟩
      rw [← e] at this
      exact ⟨x, (ofS_mem.1 this).1, rfl⟩
  have hvb : ∀ k, v'.ownBlock = some k → k ≠ b := fun k hk e => by
    rcases ha k hk with e1 | e1
    · exact hbτ s k e1 e
    · have := hm.lt
      omega
  refine ⟨w2, hrun, ⟨fun t => ?_, fun t u htu k => ?_, fun t ht => ?_, .inr ⟨b, _, rfl, tightX ho2, hsr.tidy.put (kyN_lit _) _, fun t => ?_, fun t z ht => ?_, hsr.siz.put hsr.tidy _ _⟩⟩, hc2⟩
  · by_cases e : t = s
    · subst e
      rw [updI_same]
      exact owns_chg ho hc2 hvb
    · rw [updI_other _ _ e, hoth t e]
      exact owns_chg (owns_chg (h.row t) hc (fun k hk => h.rap t s e k hk)) hc2 (hbτ t)
  · by_cases e : t = s
    · subst e
      rw [updI_same, updI_other _ _ (fun e => htu e.symm)]
      intro hk hk'
      rcases ha k hk with e | e
      · exact h.rap t u htu k e hk'
      · have := ((h.row u).lt k hk').2
        omega
    · rw [updI_other _ _ e]
      intro hk
      by_cases e2 : u = s
      · subst e2
        rw [updI_same]
        intro hk'
        rcases ha k hk' with e | e
        · exact h.rap t u htu k hk e
        · have := ((h.row t).lt k hk).2
          omega
      · rw [updI_other _ _ e2]
        exact h.rap t u htu k hk
  · have e : t ≠ s := fun e => by
      obtain ⟨x, hx, hxs⟩ := hin
      exact ht x hx (by rw [hxs, e])
    rw [updI_other _ _ e]
    refine h.nil t (fun x hx hxt => ?_)
    obtain ⟨x', hx', e'⟩ := (hmem t e).2 ⟨x, hx, hxt⟩
    exact ht x' hx' e'
  · by_cases e : t = s
    · subst e
      rw [Maps.has_put_same hsr.tidy.isMap (kyN_lit _)]
      exact ⟨fun _ => hin, fun _ => rfl⟩
    · rw [Maps.has_put_other (kyN_ne e), hsr.has t, hmem t e]
  · by_cases e : t = s
    · subst e
      rw [updI_same]
      exact Maps.atKey_put_same hsr.tidy.isMap (kyN_lit _) _ _
    · rw [Maps.atKey_put_other (kyN_ne e), updI_other _ _ e]
      exact hsr.look t z ((hmem t e).1 ht)
/-- A session is gone. -/
theorem SesAt.gone {w : World} {σ : Option Nat} {τ : Int → Value} {hs hs' : List He} (h : SesAt w σ τ hs) {b : Nat} {Dm : DataW Value} (hσ : σ = some b) (hm : w.ownsMap Tryz.prog 3 raw b (Maps.size Dm) Dm) (hsr : SR Dm τ hs) {s : Int} (hwf : (Lit.int .i64 s).wf = true)
    (hoth : ∀ t, t ≠ s → ofS hs' t = ofS hs t) (hno : ∀ x ∈ hs', x.s ≠ s) (ty : TypeId) :
    ∃ w2, (Builtin.delete_ #[79, 3] ty #[.map (some b), .int .i64 s]).run Tryz.prog w = .ok (.tuple #[]) w2 ∧ SesAt w2 (some b) (updI τ s (.slice none 0 0)) hs' ∧ Chg w w2 (fun k => k = b) := by
  have hbτ : ∀ t k, (τ t).ownBlock = some k → k ≠ b := fun t k hk e => by
    subst e
    obtain ⟨cur, h1⟩ := h.kτ hk
    obtain ⟨es, c, h2⟩ := h.kσ hσ
    rw [h1] at h2
    cases h2
  obtain ⟨w2, hrun, ho2, ht2⟩ := hm.drop keyedN Tryz.underlying79 (keyN hwf) ty
  have hc2 := chgTurned ht2
  have hmem : ∀ t, t ≠ s → ((∃ x ∈ hs', x.s = t) ↔ ∃ x ∈ hs, x.s = t) := fun t ht => by
    have e := hoth t ht
    constructor
    · rintro ⟨x, hx, rfl⟩
      have : x ∈ ofS hs' x.s := ofS_mem.2 ⟨hx, rfl⟩
      rw [e] at this
      exact ⟨x, (ofS_mem.1 this).1, rfl⟩
    · rintro ⟨x, hx, rfl⟩
      have : x ∈ ofS hs x.s := ofS_mem.2 ⟨hx, rfl⟩
      rw [← e] at this
      exact ⟨x, (ofS_mem.1 this).1, rfl⟩
  refine ⟨w2, hrun, ⟨fun t => ?_, fun t u htu k => ?_, fun t ht => ?_, .inr ⟨b, _, rfl, tightX ho2, hsr.tidy.del _, fun t => ?_, fun t z ht => ?_, hsr.siz.del hsr.tidy _⟩⟩, hc2⟩
  · by_cases e : t = s
    · subst e
      rw [updI_same, ofS_none hno]
      exact World.ownsRow_nil _ _ _ _
    · rw [updI_other _ _ e, hoth t e]
      exact owns_chg (h.row t) hc2 (hbτ t)
  · by_cases e : t = s
    · subst e
      rw [updI_same]
      intro hk
      cases hk
    · rw [updI_other _ _ e]
      intro hk
      by_cases e2 : u = s
      · subst e2
        rw [updI_same]
        intro hk'
        cases hk'
      · rw [updI_other _ _ e2]
        exact h.rap t u htu k hk
  · by_cases e : t = s
    · subst e
      exact updI_same _ _ _
    · rw [updI_other _ _ e]
      refine h.nil t (fun x hx hxt => ?_)
      obtain ⟨x', hx', e'⟩ := (hmem t e).2 ⟨x, hx, hxt⟩
      exact ht x' hx' e'
  · by_cases e : t = s
    · subst e
      rw [Maps.has_del_same]
      constructor
      · intro h; cases h
      · rintro ⟨x, hx, hxs⟩; exact absurd hxs (hno x hx)
    · rw [Maps.has_del_other (kyN_ne e), hsr.has t, hmem t e]
  · by_cases e : t = s
    · subst e
      obtain ⟨x, hx, hxs⟩ := ht
      exact absurd hxs (hno x hx)
    · rw [Maps.atKey_del_other (kyN_ne e), updI_other _ _ e]
      exact hsr.look t z ((hmem t e).1 ht)
/-- A map of sessions is made. -/
theorem SesAt.made {w : World} {τ : Int → Value} {hs : List He} (h : SesAt w none τ hs) : SesAt (w.alloc (.map #[] 0)) (some w.heap.size) τ hs := by
  have hb : Below w.heap.size w (w.alloc (.map #[] 0)) := (Below.refl _ _).alloc (Nat.le_refl _) _
  have h1 := h.below hb
  have hn : hs = [] := by
    rcases h.map with ⟨_, h2⟩ | ⟨b, Dm, h1, _⟩
    · exact h2
    · cases h1
  refine ⟨h1.row, h.rap, h.nil, .inr ⟨w.heap.size, .map [], rfl, World.ownsMap_made w _ 3 raw, Maps.tidy_empty, fun s => ?_, fun s z hx => ?_, ⟨[], List.nodup_nil, fun s => ⟨fun h => (by cases h), fun h => (by cases h)⟩, rfl⟩⟩⟩
  · subst hn
    constructor
    · intro h; cases h
    · rintro ⟨x, hx, _⟩; cases hx
  · subst hn
    obtain ⟨x, hx, _⟩ := hx
    cases hx
end Go.Proofs.YtbblckcjedjbcaaGreatDoor
