import Derived.Test.YtbblckcjedjbcaaGreatDoorXAdd
namespace Go.Proofs.YtbblckcjedjbcaaGreatDoor
open Go.RowKit Go.Maps Go.WideShapes
set_option linter.unusedVariables false
set_option linter.unusedSimpArgs false

abbrev kyN (n : Int) : Lit := .int .i64 n
theorem kyN_ne {a b : Int} (h : a ≠ b) : kyN a ≠ kyN b := fun e => h (by simpa [kyN] using e)
theorem keyedN : Keyed Tryz.prog 3 := int_keyed Tryz.underlying3
theorem keyN {n : Int} (h : (Lit.int .i64 n).wf = true) : keyOf Tryz.prog 3 (.int .i64 n) = some (kyN n) := keyOf_int_mk Tryz.underlying3 h
theorem kyN_lit (n : Int) : WideAt.IsKeyLit (kyN n) := trivial
/-- The watches of a session. -/
def ofS (hs : List He) (s : Int) : List He := hs.filter (fun h => decide (h.s = s))
theorem ofS_mem {hs : List He} {s : Int} {h : He} : h ∈ ofS hs s ↔ h ∈ hs ∧ h.s = s := by simp [ofS]
theorem ofS_none {hs : List He} {s : Int} (h : ∀ x ∈ hs, x.s ≠ s) : ofS hs s = [] := by
  unfold ofS
  rw [List.filter_eq_nil_iff]
  intro x hx
  simp [h x hx]
/-- How many keys a map by numbers has. -/
def Siz (Dm : DataW Value) : Prop := ∃ ks : List Int, ks.Nodup ∧ (∀ s, s ∈ ks ↔ Maps.has Dm (kyN s) = true) ∧ Maps.size Dm = ks.length
theorem Siz.put {Dm : DataW Value} (h : Siz Dm) (ht : Tidy Dm) (s : Int) (d : DataW Value) : Siz (Dm.put (kyN s) d) := by
  obtain ⟨ks, h1, h2, h3⟩ := h
  have hp : ∀ t, Maps.has (Dm.put (kyN s) d) (kyN t) = true ↔ t = s ∨ Maps.has Dm (kyN t) = true := fun t => by
    by_cases e : t = s
    · subst e
      rw [Maps.has_put_same ht.isMap (kyN_lit _)]
      simp
    · rw [Maps.has_put_other (kyN_ne e)]
      simp [e]
  by_cases hs : s ∈ ks
  · refine ⟨ks, h1, fun t => ?_, ?_⟩
    · rw [hp, h2]
      constructor
      · exact .inr
      · rintro (rfl | h)
        · exact (h2 _).1 hs
        · exact h
    · rw [Maps.size_put ht, (h2 s).1 hs, h3]
      rfl
  · refine ⟨ks ++ [s], ?_, fun t => ?_, ?_⟩
    · rw [List.nodup_append]
      refine ⟨h1, by simp, fun a ha b hb e => ?_⟩
      have hb' : b = s := by simpa using hb
      rw [e, hb'] at ha
      exact hs ha
    · rw [hp, List.mem_append, h2]
      simp only [List.mem_singleton]
      exact Or.comm
    · have hn : Maps.has Dm (kyN s) = false := by rw [Bool.eq_false_iff]; exact fun e => hs ((h2 s).2 e)
      rw [Maps.size_put ht, hn, h3, List.length_append]
      rfl
theorem Siz.del {Dm : DataW Value} (h : Siz Dm) (ht : Tidy Dm) (s : Int) : Siz (Dm.del (kyN s)) := by
  obtain ⟨ks, h1, h2, h3⟩ := h
  refine ⟨ks.filter (fun t => decide (t ≠ s)), List.Pairwise.filter _ h1, fun t => ?_, ?_⟩
  · rw [List.mem_filter, h2]
    by_cases e : t = s
    · subst e
      rw [Maps.has_del_same]
      simp
    · rw [Maps.has_del_other (kyN_ne e)]
      simp [e]
  · have h4 := Maps.size_del ht (k := kyN s)
    by_cases hs : s ∈ ks
    · rw [(h2 s).1 hs, h3] at h4
      have h5 : (ks.filter (fun t => decide (t ≠ s))).length + 1 = ks.length := by
        clear h2 h3 h4
        induction ks with
        | nil => cases hs
        | cons a r ih =>
          obtain ⟨h6, h7⟩ := List.nodup_cons.1 h1
          by_cases e : a = s
          · subst e
            have : r.filter (fun t => decide (t ≠ a)) = r := by
              rw [List.filter_eq_self]
              intro x hx
              have : x ≠ a := fun e => h6 (e ▸ hx)
              simp [this]
            rw [List.filter_cons, this]
            simp
          · have hr : s ∈ r := by
              rcases List.mem_cons.1 hs with h | h
              · exact absurd h.symm e
              · exact h
            rw [List.filter_cons, if_pos (by simp [e])]
            have := ih h7 hr
            simp only [List.length_cons]
            omega
      simp at h4
      omega
    · have hn : Maps.has Dm (kyN s) = false := by rw [Bool.eq_false_iff]; exact fun e => hs ((h2 s).2 e)
      have h5 : ks.filter (fun t => decide (t ≠ s)) = ks := by
        rw [List.filter_eq_self]
        intro x hx
        have : x ≠ s := fun e => hs (e ▸ hx)
        simp [this]
      rw [h5, ← h3]
      rw [hn] at h4
      simpa using h4
/-- A map holds just the sessions that have watches. -/
structure SR (Dm : DataW Value) (τ : Int → Value) (hs : List He) : Prop where
  tidy : Tidy Dm
  has : ∀ s, Maps.has Dm (kyN s) = true ↔ ∃ h ∈ hs, h.s = s
  look : ∀ s z, (∃ h ∈ hs, h.s = s) → Dm.atKey (kyN s) z = .held (τ s)
  siz : Siz Dm
theorem SR.size {Dm : DataW Value} {τ : Int → Value} {hs : List He} (h : SR Dm τ hs) : Maps.size Dm ≤ hs.length := by
  obtain ⟨ks, h1, h2, h3⟩ := h.siz
  rw [h3]
  have hsub : ks ⊆ hs.map He.s := fun s hs' => by
    obtain ⟨x, hx, e⟩ := (h.has s).1 ((h2 s).1 hs')
    exact List.mem_map.2 ⟨x, hx, e⟩
  have := List.Nodup.length_le_of_subset h1 hsub
  rwa [List.length_map] at this
structure SesAt (w : World) (σ : Option Nat) (τ : Int → Value) (hs : List He) : Prop where
  row : ∀ s, w.ownsRow 0 91 1 (τ s) (ofS hs s).length (ptrs (ofS hs s))
  rap : ∀ s t, s ≠ t → ∀ k, (τ s).ownBlock = some k → (τ t).ownBlock ≠ some k
  nil : ∀ s, (∀ h ∈ hs, h.s ≠ s) → τ s = .slice none 0 0
  map : (σ = none ∧ hs = []) ∨ ∃ b Dm, σ = some b ∧ w.ownsMap Tryz.prog 3 raw b (Maps.size Dm) Dm ∧ SR Dm τ hs
def Sf (σ : Option Nat) (τ : Int → Value) (k : Nat) : Prop := σ = some k ∨ ∃ s, (τ s).ownBlock = some k
theorem mapN_chg {w w' : World} {b n : Nat} {D : DataW Value} {S : Nat → Prop} (h : w.ownsMap Tryz.prog 3 raw b n D) (hc : Chg w w' S) (hs : ¬ S b) : w'.ownsMap Tryz.prog 3 raw b n D := by
  have hl := h.lt
  obtain ⟨es, clock, hb, r⟩ := h
  exact ⟨es, clock, by rw [hc.block b hl hs]; exact hb, r⟩
theorem SesAt.chg {w w' : World} {σ : Option Nat} {τ : Int → Value} {hs : List He} {S : Nat → Prop} (h : SesAt w σ τ hs) (hc : Chg w w' S) (hS : ∀ k, Sf σ τ k → ¬ S k) : SesAt w' σ τ hs :=
  ⟨fun s => owns_chg (h.row s) hc (fun k hk => hS k (.inr ⟨s, hk⟩)), h.rap, h.nil, h.map.imp id (fun ⟨b, Dm, h1, h2, h3⟩ => ⟨b, Dm, h1, mapN_chg h2 hc (hS b (.inl h1)), h3⟩)⟩
theorem SesAt.below {w w' : World} {σ : Option Nat} {τ : Int → Value} {hs : List He} (h : SesAt w σ τ hs) (hb : Below w.heap.size w w') : SesAt w' σ τ hs := h.chg (Chg.of_below hb (fun _ => False)) (fun _ _ => id)
theorem SesAt.kτ {w : World} {σ : Option Nat} {τ : Int → Value} {hs : List He} (h : SesAt w σ τ hs) {s : Int} {k : Nat} (hk : (τ s).ownBlock = some k) : ∃ cur, w.heap[k]? = some (.cells cur 91 (0, 0)) := owns_kind (h.row s) hk
theorem SesAt.kσ {w : World} {σ : Option Nat} {τ : Int → Value} {hs : List He} (h : SesAt w σ τ hs) {k : Nat} (hk : σ = some k) : ∃ es c, w.heap[k]? = some (.map es c) := by
  rcases h.map with ⟨h1, _⟩ | ⟨b, Dm, h1, h2, _⟩
  · rw [h1] at hk; cases hk
  · rw [h1] at hk
    cases hk
    obtain ⟨es, c, hb, _⟩ := h2
    exact ⟨es, c, hb⟩
theorem SesAt.lt {w : World} {σ : Option Nat} {τ : Int → Value} {hs : List He} (h : SesAt w σ τ hs) {k : Nat} (hk : Sf σ τ k) : k < w.heap.size := by
  rcases hk with hk | ⟨s, hk⟩
  · obtain ⟨es, c, h1⟩ := h.kσ hk
    exact lt_of_blk h1
  · obtain ⟨cur, h1⟩ := h.kτ hk
    exact lt_of_blk h1
theorem zeroSl (w : World) : (zeroValue 76).run Tryz.prog w = .ok (.slice none 0 0) w := by kernel_rfl
theorem SesAt.get {w : World} {σ : Option Nat} {τ : Int → Value} {hs : List He} (h : SesAt w σ τ hs) {s : Int} (hwf : (Lit.int .i64 s).wf = true) : (Instr.lookup 79 (.map σ) (.int .i64 s) false).run Tryz.prog w = .ok (τ s) w := by
  rcases h.map with ⟨rfl, rfl⟩ | ⟨b, Dm, rfl, h2, h3⟩
  · rw [Maps.look_nil false keyedN Tryz.underlying79 (zeroSl w) (keyN hwf), h.nil s (fun x hx => by cases hx)]
    rfl
  · obtain ⟨v, ps, hrun, hv⟩ := h2.lookup keyedN Tryz.underlying79 (zeroSl w) (zd := .held (.slice none 0 0)) (zp := []) rfl (keyN hwf)
    rw [hrun]
    by_cases hx : ∃ x ∈ hs, x.s = s
    · rw [h3.look s _ hx] at hv
      rw [raw_inv hv]
    · rw [Maps.atKey_of_not_has (by
        rw [Bool.eq_false_iff]
        intro e
        exact hx ((h3.has s).1 e))] at hv
      rw [raw_inv hv, h.nil s (fun x hx' e => hx ⟨x, hx', e⟩)]
theorem SesAt.hl {w : World} {σ : Option Nat} {τ : Int → Value} {hs : List He} (h : SesAt w σ τ hs) (hh : ∀ x ∈ hs, HdAt w x) (s : Int) : ∃ a c, τ s = .slice a (ofS hs s).length c ∧ Hl w a c (ofS hs s) := by
  have hr := h.row s
  have hh : ∀ x ∈ ofS hs s, HdAt w x := fun x hx => hh x (ofS_mem.1 hx).1
  rcases hr.2 with ⟨h0, h1⟩ | ⟨g, cap, cur, hv, r⟩
  · refine ⟨none, 0, by rw [h0, h1], ?_, hh⟩
    rw [h1]
    rw [h0, h1] at hr
    exact hr
  · refine ⟨some ⟨g, 0, none⟩, cap, hv, ?_, hh⟩
    rw [hv] at hr
    exact hr
/-- A value for one session. -/
def updI {α : Type} (f : Int → α) (p : Int) (x : α) : Int → α := fun q => if q = p then x else f q
theorem updI_same {α : Type} (f : Int → α) (p : Int) (x : α) : updI f p x p = x := by simp [updI]
theorem updI_other {α : Type} (f : Int → α) {p q : Int} (x : α) (h : q ≠ p) : updI f p x q = f q := by simp [updI, h]
/-- A session's list is another one, and is put into the map. -/
theorem SesAt.put {w w1 : World} {σ : Option Nat} {τ : Int → Value} {hs hs' : List He} (h : SesAt w σ τ hs) {b : Nat} {Dm : DataW Value} (hσ : σ = some b) (hm : w.ownsMap Tryz.prog 3 raw b (Maps.size Dm) Dm) (hsr : SR Dm τ hs) (hsz : Maps.size Dm ≤ 1000000) {s : Int} (hwf : (Lit.int .i64 s).wf = true) (v' : Value)
    (hc : Chg w w1 (fun k => (τ s).ownBlock = some k)) (ho : w1.ownsRow 0 91 1 v' (ofS hs' s).length (ptrs (ofS hs' s))) (ha : ∀ k, v'.ownBlock = some k → (τ s).ownBlock = some k ∨ w.heap.size ≤ k)
    (hoth : ∀ t, t ≠ s → ofS hs' t = ofS hs t) (hin : ∃ x ∈ hs', x.s = s) :
    ∃ w2, (Instr.mapUpdate 79 (.map (some b)) (.int .i64 s) v').run Tryz.prog w1 = .ok () w2 ∧ SesAt w2 (some b) (updI τ s v') hs' ∧ Chg w1 w2 (fun k => k = b) := by
  have hbτ : ∀ t k, (τ t).ownBlock = some k → k ≠ b := fun t k hk e => by
    subst e
    obtain ⟨cur, h1⟩ := h.kτ hk
    obtain ⟨es, c, h2⟩ := h.kσ hσ
    rw [h1] at h2
    cases h2
  have hm1 := mapN_chg hm hc (fun e => hbτ s b e rfl)
  obtain ⟨w2, hrun, ho2, ht2⟩ := hm1.store keyedN Tryz.underlying79 (by unfold maxLen; omega) (keyN hwf) (val := v') (d := .held v') (ps := []) rfl
  have hc2 := chgTurned ht2
  have hmem : ∀ t, t ≠ s → ((∃ x ∈ hs', x.s = t) ↔ ∃ x ∈ hs, x.s = t) := fun t ht => by
    have e := hoth t ht
    constructor
    · rintro ⟨x, hx, rfl⟩
      have : x ∈ ofS hs' x.s := ofS_mem.2 ⟨hx, rfl⟩
      rw [e] at this
      exact ⟨x, (ofS_mem.1 this).1, rfl⟩
    · rintro ⟨x, hx, rfl⟩
      have : x ∈ ofS hs x.s := ofS_mem.2 ⟨hx, rfl⟩
      rw [← e] at this
      exact ⟨x, (ofS_mem.1 this).1, rfl⟩
  have hvb : ∀ k, v'.ownBlock = some k → k ≠ b := fun k hk e => by
    rcases ha k hk with e1 | e1
    · exact hbτ s k e1 e
    · have := hm.lt
      omega
  refine ⟨w2, hrun, ⟨fun t => ?_, fun t u htu k => ?_, fun t ht => ?_, .inr ⟨b, _, rfl, tightX ho2, hsr.tidy.put (kyN_lit _) _, fun t => ?_, fun t z ht => ?_, hsr.siz.put hsr.tidy _ _⟩⟩, hc2⟩
  · by_cases e : t = s
    · subst e
      rw [updI_same]
      exact owns_chg ho hc2 hvb
    · rw [updI_other _ _ e, hoth t e]
      exact owns_chg (owns_chg (h.row t) hc (fun k hk => h.rap t s e k hk)) hc2 (hbτ t)
  · by_cases e : t = s
    · subst e
      rw [updI_same, updI_other _ _ (fun e => htu e.symm)]
      intro hk hk'
      rcases ha k hk with e | e
      · exact h.rap t u htu k e hk'
      · have := ((h.row u).lt k hk').2
        omega
    · rw [updI_other _ _ e]
      intro hk
      by_cases e2 : u = s
      · subst e2
        rw [updI_same]
        intro hk'
        rcases ha k hk' with e | e
        · exact h.rap t u htu k hk e
        · have := ((h.row t).lt k hk).2
          omega
      · rw [updI_other _ _ e2]
        exact h.rap t u htu k hk
  · have e : t ≠ s := fun e => by
      obtain ⟨x, hx, hxs⟩ := hin
      exact ht x hx (by rw [hxs, e])
    rw [updI_other _ _ e]
    refine h.nil t (fun x hx hxt => ?_)
    obtain ⟨x', hx', e'⟩ := (hmem t e).2 ⟨x, hx, hxt⟩
    exact ht x' hx' e'
  · by_cases e : t = s
    · subst e
      rw [Maps.has_put_same hsr.tidy.isMap (kyN_lit _)]
      exact ⟨fun _ => hin, fun _ => rfl⟩
    · rw [Maps.has_put_other (kyN_ne e), hsr.has t, hmem t e]
  · by_cases e : t = s
    · subst e
      rw [updI_same]
      exact Maps.atKey_put_same hsr.tidy.isMap (kyN_lit _) _ _
    · rw [Maps.atKey_put_other (kyN_ne e), updI_other _ _ e]
      exact hsr.look t z ((hmem t e).1 ht)
/-- A session is gone. -/
theorem SesAt.gone {w : World} {σ : Option Nat} {τ : Int → Value} {hs hs' : List He} (h : SesAt w σ τ hs) {b : Nat} {Dm : DataW Value} (hσ : σ = some b) (hm : w.ownsMap Tryz.prog 3 raw b (Maps.size Dm) Dm) (hsr : SR Dm τ hs) {s : Int} (hwf : (Lit.int .i64 s).wf = true)
    (hoth : ∀ t, t ≠ s → ofS hs' t = ofS hs t) (hno : ∀ x ∈ hs', x.s ≠ s) (ty : TypeId) :
    ∃ w2, (Builtin.delete_ #[79, 3] ty #[.map (some b), .int .i64 s]).run Tryz.prog w = .ok (.tuple #[]) w2 ∧ SesAt w2 (some b) (updI τ s (.slice none 0 0)) hs' ∧ Chg w w2 (fun k => k = b) := by
  have hbτ : ∀ t k, (τ t).ownBlock = some k → k ≠ b := fun t k hk e => by
    subst e
    obtain ⟨cur, h1⟩ := h.kτ hk
    obtain ⟨es, c, h2⟩ := h.kσ hσ
    rw [h1] at h2
    cases h2
  obtain ⟨w2, hrun, ho2, ht2⟩ := hm.drop keyedN Tryz.underlying79 (keyN hwf) ty
  have hc2 := chgTurned ht2
  have hmem : ∀ t, t ≠ s → ((∃ x ∈ hs', x.s = t) ↔ ∃ x ∈ hs, x.s = t) := fun t ht => by
    have e := hoth t ht
    constructor
    · rintro ⟨x, hx, rfl⟩
      have : x ∈ ofS hs' x.s := ofS_mem.2 ⟨hx, rfl⟩
      rw [e] at this
      exact ⟨x, (ofS_mem.1 this).1, rfl⟩
    · rintro ⟨x, hx, rfl⟩
      have : x ∈ ofS hs x.s := ofS_mem.2 ⟨hx, rfl⟩
      rw [← e] at this
      exact ⟨x, (ofS_mem.1 this).1, rfl⟩
  refine ⟨w2, hrun, ⟨fun t => ?_, fun t u htu k => ?_, fun t ht => ?_, .inr ⟨b, _, rfl, tightX ho2, hsr.tidy.del _, fun t => ?_, fun t z ht => ?_, hsr.siz.del hsr.tidy _⟩⟩, hc2⟩
  · by_cases e : t = s
    · subst e
      rw [updI_same, ofS_none hno]
      exact World.ownsRow_nil _ _ _ _
    · rw [updI_other _ _ e, hoth t e]
      exact owns_chg (h.row t) hc2 (hbτ t)
  · by_cases e : t = s
    · subst e
      rw [updI_same]
      intro hk
      cases hk
    · rw [updI_other _ _ e]
      intro hk
      by_cases e2 : u = s
      · subst e2
        rw [updI_same]
        intro hk'
        cases hk'
      · rw [updI_other _ _ e2]
        exact h.rap t u htu k hk
  · by_cases e : t = s
    · subst e
      exact updI_same _ _ _
    · rw [updI_other _ _ e]
      refine h.nil t (fun x hx hxt => ?_)
      obtain ⟨x', hx', e'⟩ := (hmem t e).2 ⟨x, hx, hxt⟩
      exact ht x' hx' e'
  · by_cases e : t = s
    · subst e
      rw [Maps.has_del_same]
      constructor
      · intro h; cases h
      · rintro ⟨x, hx, hxs⟩; exact absurd hxs (hno x hx)
    · rw [Maps.has_del_other (kyN_ne e), hsr.has t, hmem t e]
  · by_cases e : t = s
    · subst e
      obtain ⟨x, hx, hxs⟩ := ht
      exact absurd hxs (hno x hx)
    · rw [Maps.atKey_del_other (kyN_ne e), updI_other _ _ e]
      exact hsr.look t z ((hmem t e).1 ht)
/-- A map of sessions is made. -/
theorem SesAt.made {w : World} {τ : Int → Value} {hs : List He} (h : SesAt w none τ hs) : SesAt (w.alloc (.map #[] 0)) (some w.heap.size) τ hs := by
  have hb : Below w.heap.size w (w.alloc (.map #[] 0)) := (Below.refl _ _).alloc (Nat.le_refl _) _
  have h1 := h.below hb
  have hn : hs = [] := by
    rcases h.map with ⟨_, h2⟩ | ⟨b, Dm, h1, _⟩
    · exact h2
    · cases h1
  refine ⟨h1.row, h.rap, h.nil, .inr ⟨w.heap.size, .map [], rfl, World.ownsMap_made w _ 3 raw, Maps.tidy_empty, fun s => ?_, fun s z hx => ?_, ⟨[], List.nodup_nil, fun s => ⟨fun h => (by cases h), fun h => (by cases h)⟩, rfl⟩⟩⟩
  · subst hn
    constructor
    · intro h; cases h
    · rintro ⟨x, hx, _⟩; cases hx
  · subst hn
    obtain ⟨x, hx, _⟩ := hx
    cases hx
end Go.Proofs.YtbblckcjedjbcaaGreatDoor
namespace Go.Proofs.YtbblckcjedjbcaaGreatDoor
open Go.RowKit Go.Maps
set_option linter.unusedVariables false
set_option linter.unusedSimpArgs false

structure TrieAt (w : World) (B : Nat) (y : Lay) (D : List Way) (σ : Option Nat) (τ : Int → Value) (hs : List He) : Prop where
  tr : Tr w y D hs
  top : y.β [] = B
  sig : y.σ = .map σ
  ses : SesAt w σ τ hs
  sρ : ∀ s, ∀ p ∈ D, ∀ k, (τ s).ownBlock = some k → (y.ρ p).ownBlock ≠ some k
  sμ : ∀ p ∈ D, ∀ k, σ = some k → y.μ p ≠ some k
  ok : ∀ h ∈ hs, parse h.p = (0, h.way)
  cls : ∀ q, q ∈ D ↔ q = [] ∨ ∃ h ∈ hs, q <+: h.way
/-- What it lies in. -/
def Tf (y : Lay) (D : List Way) (σ : Option Nat) (τ : Int → Value) (k : Nat) : Prop := Wt y D k ∨ Sf σ τ k
theorem TrieAt.chg {w w' : World} {B : Nat} {y : Lay} {D : List Way} {σ : Option Nat} {τ : Int → Value} {hs : List He} {S : Nat → Prop} (h : TrieAt w B y D σ τ hs) (hc : Chg w w' S) (hS : ∀ k, Tf y D σ τ k → ¬ S k) (hH : ∀ x ∈ hs, ¬ S x.b) : TrieAt w' B y D σ τ hs :=
  { h with
    tr := h.tr.chg hc (fun k hk => hk.elim (fun e => hS k (.inl e)) (fun ⟨x, hx, e⟩ => e ▸ hH x hx))
    ses := h.ses.chg hc (fun k hk => hS k (.inr hk)) }
theorem TrieAt.below {w w' : World} {B : Nat} {y : Lay} {D : List Way} {σ : Option Nat} {τ : Int → Value} {hs : List He} (h : TrieAt w B y D σ τ hs) (hb : Below w.heap.size w w') : TrieAt w' B y D σ τ hs := { h with tr := h.tr.below hb, ses := h.ses.below hb }
theorem TrieAt.way_in {w : World} {B : Nat} {y : Lay} {D : List Way} {σ : Option Nat} {τ : Int → Value} {hs : List He} (h : TrieAt w B y D σ τ hs) : ∀ x ∈ hs, x.way ∈ D := fun x hx => (h.cls x.way).2 (.inr ⟨x, hx, List.prefix_refl _⟩)
theorem TrieAt.cells {w : World} {B : Nat} {y : Lay} {D : List Way} {σ : Option Nat} {τ : Int → Value} {hs : List He} (h : TrieAt w B y D σ τ hs) : w.cell? ⟨B, 0, none⟩ = some (.map (y.μ [])) ∧ w.cell? ⟨B, 1, none⟩ = some (y.ρ []) ∧ w.cell? ⟨B, 2, none⟩ = some (.map σ) ∧ ∀ o, w.frozen? ⟨B, o, none⟩ = false := by
  obtain ⟨h0, h1, h2, h3⟩ := (h.tr.nd [] h.tr.root).cells
  rw [h.top] at h0 h1 h2 h3
  rw [← h.sig]
  exact ⟨h0, h1, h2 rfl, h3⟩
theorem TrieAt.lt {w : World} {B : Nat} {y : Lay} {D : List Way} {σ : Option Nat} {τ : Int → Value} {hs : List He} (h : TrieAt w B y D σ τ hs) : B < w.heap.size := by
  obtain ⟨c, t, hb, _⟩ := h.tr.kβ h.tr.root
  rw [h.top] at hb
  exact lt_of_blk hb
/-- All beginnings of a way. -/
def waysTo (q : Way) : List Way := (List.range (q.length + 1)).map (fun n => q.take n)
theorem waysTo_len (q : Way) : (waysTo q).length = q.length + 1 := by simp [waysTo]
theorem waysTo_mem {p q : Way} : p ∈ waysTo q ↔ p <+: q := by
  unfold waysTo
  rw [List.mem_map]
  constructor
  · rintro ⟨n, _, rfl⟩
    exact List.take_prefix _ _
  · intro h
    exact ⟨p.length, List.mem_range.2 (by have := h.length_le; omega), (List.prefix_iff_eq_take.1 h).symm⟩
theorem TrieAt.lenD {w : World} {B : Nat} {y : Lay} {D : List Way} {σ : Option Nat} {τ : Int → Value} {hs : List He} (h : TrieAt w B y D σ τ hs) : D.length ≤ 1 + hs.length * 7 := by
  have hsub : D ⊆ [] :: hs.flatMap (fun x => waysTo x.way) := fun q hq => by
    rcases (h.cls q).1 hq with rfl | ⟨x, hx, hp⟩
    · exact List.mem_cons_self
    · exact List.mem_cons_of_mem _ (List.mem_flatMap.2 ⟨x, hx, waysTo_mem.2 hp⟩)
  have h1 := List.Nodup.length_le_of_subset h.tr.dn hsub
  have h2 : (hs.flatMap (fun x => waysTo x.way)).length ≤ hs.length * 7 := by
    have hok := h.ok
    clear h h1 hsub
    induction hs with
    | nil => simp
    | cons x r ih =>
      have := ih (fun y hy => hok y (List.mem_cons_of_mem _ hy))
      have hx := (parse_len (hok x List.mem_cons_self)).1
      rw [List.flatMap_cons, List.length_append, waysTo_len, List.length_cons]
      omega
  rw [List.length_cons] at h1
  omega
def wfI (n : Int) : Prop := (Lit.int .i64 n).wf = true
set_option maxHeartbeats 3200000 in
theorem of_any (w : World) (B : Nat) (y : Lay) (D : List Way) (σ : Option Nat) (τ : Int → Value) (hs : List He) (s : Int) (h : TrieAt w B y D σ τ hs) (hwf : wfI s) :
    Calls Tryz.prog 36 #[ndV B, .int .i64 s] w fun e w' => e = .returned (τ s) ∧ w' = w := by
  obtain ⟨c0, c1, c2, fz⟩ := h.cells
  have hg := h.ses.get hwf
  clear h hwf
  go_enter Tryz.func36, Tryz.ntmps36
  go_wp2_with fail
  go_ret
  exact ⟨rfl, rfl⟩
theorem of_nil (w : World) (s : Int) :
    Calls Tryz.prog 36 #[.pointer none, .int .i64 s] w fun e w' => e = .returned (.slice none 0 0) ∧ w' = w := by
  go_enter Tryz.func36, Tryz.ntmps36
  go_wp2_with fail
  go_ret
  exact ⟨rfl, rfl⟩
abbrev watV (i : Int) (p : ByteArray) (k f : Int) : Value := .agg #[.int .i64 i, .string p, .int .i64 k, .int .i64 f]
/-- Whether the numbers of a watch may be. -/
def numsB (s i f : Int) : Bool := decide (s < 1) || decide (s > 2147483647) || decide (i < 1) || decide (i > 2147483647) || decide (f < 0) || decide (f > 2147483647)
/-- What mayAdd says, l being the session's watches. -/
def mayL (l : List He) (full : Bool) (s i : Int) (p : ByteArray) (k f : Int) : Int :=
  if numsB s i f then 3 else if (parse p).1 ≠ 0 then 10 else if k < 1 ∨ k > 3 ∨ hasH l s i = true then 90 else if full = true ∨ 4 ≤ l.length then 46 else 0
set_option maxHeartbeats 16000000 in
theorem may_nums (t : Value) (w : World) (s i : Int) (p : ByteArray) (k f : Int) (h : numsB s i f = true) :
    Calls Tryz.prog 38 #[t, .int .i64 s, watV i p k f] w fun e w' => e = .returned (.int .i64 3) ∧ Below w.heap.size w w' := by
  obtain ⟨b0, b1, b2, b3⟩ := cells_4 (heap_alloc_new w (.cells #[.int .i64 i, .string p, .int .i64 k, .int .i64 f] 40))
  unfold numsB at h
  simp only [Bool.or_eq_true, decide_eq_true_eq] at h
  by_cases h1 : s < 1
  · go_enter Tryz.func38, Tryz.ntmps38
    go_wp2_with fail
    go_ret
    exact ⟨rfl, (Below.refl _ _).alloc (Nat.le_refl _) _⟩
  by_cases h2 : (2147483647 : Int) < s
  · go_enter Tryz.func38, Tryz.ntmps38
    go_wp2_with fail
    go_ret
    exact ⟨rfl, (Below.refl _ _).alloc (Nat.le_refl _) _⟩
  by_cases h3 : i < 1
  · go_enter Tryz.func38, Tryz.ntmps38
    go_wp2_with fail
    go_ret
    exact ⟨rfl, (Below.refl _ _).alloc (Nat.le_refl _) _⟩
  by_cases h4 : (2147483647 : Int) < i
  · go_enter Tryz.func38, Tryz.ntmps38
    go_wp2_with fail
    go_ret
    exact ⟨rfl, (Below.refl _ _).alloc (Nat.le_refl _) _⟩
  by_cases h5 : f < 0
  · go_enter Tryz.func38, Tryz.ntmps38
    go_wp2_with fail
    go_ret
    exact ⟨rfl, (Below.refl _ _).alloc (Nat.le_refl _) _⟩
  · have h6 : (2147483647 : Int) < f := by omega
    go_enter Tryz.func38, Tryz.ntmps38
    go_wp2_with fail
    go_ret
    exact ⟨rfl, (Below.refl _ _).alloc (Nat.le_refl _) _⟩
theorem nums_no {s i f : Int} (h : numsB s i f = false) : ¬ s < 1 ∧ ¬ (2147483647 : Int) < s ∧ ¬ i < 1 ∧ ¬ (2147483647 : Int) < i ∧ ¬ f < 0 ∧ ¬ (2147483647 : Int) < f := by
  unfold numsB at h
  simp only [Bool.or_eq_false_iff, decide_eq_false_iff_not] at h
  omega
set_option maxHeartbeats 16000000 in
set_option maxRecDepth 100000 in
theorem may_some (B : Nat) (w : World) (s i : Int) (p : ByteArray) (k f : Int) (a : Option Addr) (c : Nat) (l : List He) (hg : Ground w) (hof : ∀ w1, Below w.heap.size w w1 → Calls Tryz.prog 36 #[ndV B, .int .i64 s] w1 fun e w' => e = .returned (.slice a l.length c) ∧ w' = w1) (hl : Hl w a c l) (hlen : l.length ≤ 100000) (ho : Ord l) :
    Calls Tryz.prog 38 #[ndV B, .int .i64 s, watV i p k f] w fun e w' => e = .returned (.int .i64 (mayL l false s i p k f)) ∧ Below w.heap.size w w' := by
  unfold mayL
  cases hnb : numsB s i f with
  | true =>
    rw [if_pos rfl]
    exact may_nums _ w s i p k f hnb
  | false =>
    rw [if_neg (by decide)]
    obtain ⟨n1, n2, n3, n4, n5, n6⟩ := nums_no hnb
    clear hnb
    have hb0 : Below w.heap.size w (w.alloc (.cells #[.int .i64 i, .string p, .int .i64 k, .int .i64 f] 40)) := (Below.refl _ _).alloc (Nat.le_refl _) _
    have hx0 : (w.alloc (.cells #[.int .i64 i, .string p, .int .i64 k, .int .i64 f] 40)).heap[w.heap.size]? = some (.cells #[.int .i64 i, .string p, .int .i64 k, .int .i64 f] 40 (0, 0)) := heap_alloc_new _ _
    obtain ⟨b0, b1, b2, b3⟩ := cells_4 hx0
    have HX0 : Hid _ := hx0
    have HPA : Hid _ := parse_any p _ (hg.below hb0)
    have HB0 : Hid _ := hb0
    have HL : Hid (Hl w a c l) := hl
    have HO : Hid (Ord l) := ho
    have HOF : Hid _ := hof
    obtain ⟨pc, hpc⟩ : ∃ pc, (parse p).1 = pc := ⟨_, rfl⟩
    obtain ⟨pn, hpn⟩ : ∃ pn, (parse p).2 = pn := ⟨_, rfl⟩
    rw [hpc]
    have HPA : Hid (Calls Tryz.prog 30 #[.string p] (w.alloc (.cells #[.int .i64 i, .string p, .int .i64 k, .int .i64 f] 40)) fun e w' => ∃ a c, e = .returned (.tuple #[.slice a pn.length c, .int .i64 pc]) ∧ Below w.heap.size w w' ∧ w'.heap[w.heap.size]? = some (.cells #[.int .i64 i, .string p, .int .i64 k, .int .i64 f] 40 (0, 0))) := by
      refine Calls.mono HPA.out ?_
      rintro e w' ⟨a, c, he, _, hb⟩
      rw [hpc, hpn] at he
      exact ⟨a, c, he, xtrans2 HB0.out hb, kept_block hb HX0.out⟩
    clear hpc hpn hg hof hl ho hb0 hx0
    by_cases h0 : pc = 0
    · subst h0
      rw [if_neg (by simp)]
      obtain ⟨hb, hhb⟩ : ∃ hb, hasH l s i = hb := ⟨_, rfl⟩
      have HHB : Hid (hasH l s i = hb) := hhb
      rw [hhb]
      clear hhb
      by_cases hk1 : k < 1
      · rw [if_pos (.inl hk1)]
        go_enter Tryz.func38, Tryz.ntmps38
        go_wp2_with (first
          | (go_at_call 30; refine Calls.mono HPA.out ?_; rintro e w1 ⟨a1, c1, rfl, hb1, hx1⟩
             clear b0 b1 b2 b3
             obtain ⟨b0, b1, b2, b3⟩ := cells_4 hx1
             have HB1 : Hid _ := hb1
             have HX1 : Hid _ := hx1
             clear hb1 hx1)
          | (go_at_call 36; refine Calls.mono (HOF.out w1 HB1.out) ?_; rintro e w2 ⟨rfl, rfl⟩)
          | (go_at_call 44; refine (find_any a c l s i w2 (HL.out.below HB1.out) hlen HO.out).mono ?_; rintro e w3 ⟨nn, he, _, hb3⟩
             rw [HHB.out] at he
             subst he
             clear b0 b1 b2 b3
             obtain ⟨b0, b1, b2, b3⟩ := cells_4 (kept_block hb3 HX1.out)
             have HB3 : Hid _ := xtrans2 HB1.out hb3
             clear hb3)
          | fail)
        go_ret
        exact ⟨rfl, HB3.out⟩
      by_cases hk2 : (3 : Int) < k
      · rw [if_pos (.inr (.inl hk2))]
        go_enter Tryz.func38, Tryz.ntmps38
        go_wp2_with (first
          | (go_at_call 30; refine Calls.mono HPA.out ?_; rintro e w1 ⟨a1, c1, rfl, hb1, hx1⟩
             clear b0 b1 b2 b3
             obtain ⟨b0, b1, b2, b3⟩ := cells_4 hx1
             have HB1 : Hid _ := hb1
             have HX1 : Hid _ := hx1
             clear hb1 hx1)
          | (go_at_call 36; refine Calls.mono (HOF.out w1 HB1.out) ?_; rintro e w2 ⟨rfl, rfl⟩)
          | (go_at_call 44; refine (find_any a c l s i w2 (HL.out.below HB1.out) hlen HO.out).mono ?_; rintro e w3 ⟨nn, he, _, hb3⟩
             rw [HHB.out] at he
             subst he
             clear b0 b1 b2 b3
             obtain ⟨b0, b1, b2, b3⟩ := cells_4 (kept_block hb3 HX1.out)
             have HB3 : Hid _ := xtrans2 HB1.out hb3
             clear hb3)
          | fail)
        go_ret
        exact ⟨rfl, HB3.out⟩
      cases hb with
      | true =>
        rw [if_pos (.inr (.inr rfl))]
        go_enter Tryz.func38, Tryz.ntmps38
        go_wp2_with (first
          | (go_at_call 30; refine Calls.mono HPA.out ?_; rintro e w1 ⟨a1, c1, rfl, hb1, hx1⟩
             clear b0 b1 b2 b3
             obtain ⟨b0, b1, b2, b3⟩ := cells_4 hx1
             have HB1 : Hid _ := hb1
             have HX1 : Hid _ := hx1
             clear hb1 hx1)
          | (go_at_call 36; refine Calls.mono (HOF.out w1 HB1.out) ?_; rintro e w2 ⟨rfl, rfl⟩)
          | (go_at_call 44; refine (find_any a c l s i w2 (HL.out.below HB1.out) hlen HO.out).mono ?_; rintro e w3 ⟨nn, he, _, hb3⟩
             rw [HHB.out] at he
             subst he
             clear b0 b1 b2 b3
             obtain ⟨b0, b1, b2, b3⟩ := cells_4 (kept_block hb3 HX1.out)
             have HB3 : Hid _ := xtrans2 HB1.out hb3
             clear hb3)
          | fail)
        go_ret
        exact ⟨rfl, HB3.out⟩
      | false =>
        rw [if_neg (by rintro (h | h | h); exact hk1 h; exact hk2 h; cases h)]
        by_cases hf4 : 4 ≤ l.length
        · rw [if_pos (.inr hf4)]
          have hf4' : (4 : Int) ≤ (l.length : Int) := by omega
          go_enter Tryz.func38, Tryz.ntmps38
          go_wp2_with (first
            | (go_at_call 30; refine Calls.mono HPA.out ?_; rintro e w1 ⟨a1, c1, rfl, hb1, hx1⟩
               clear b0 b1 b2 b3
               obtain ⟨b0, b1, b2, b3⟩ := cells_4 hx1
               have HB1 : Hid _ := hb1
               have HX1 : Hid _ := hx1
               clear hb1 hx1)
            | (go_at_call 36; refine Calls.mono (HOF.out w1 HB1.out) ?_; rintro e w2 ⟨rfl, rfl⟩)
            | (go_at_call 44; refine (find_any a c l s i w2 (HL.out.below HB1.out) hlen HO.out).mono ?_; rintro e w3 ⟨nn, he, _, hb3⟩
               rw [HHB.out] at he
               subst he
               clear b0 b1 b2 b3
               obtain ⟨b0, b1, b2, b3⟩ := cells_4 (kept_block hb3 HX1.out)
               have HB3 : Hid _ := xtrans2 HB1.out hb3
               clear hb3)
            | fail)
          go_ret
          exact ⟨rfl, HB3.out⟩
        · rw [if_neg (by rintro (h | h); cases h; exact hf4 h)]
          have hf4' : ¬ (4 : Int) ≤ (l.length : Int) := by omega
          go_enter Tryz.func38, Tryz.ntmps38
          go_wp2_with (first
            | (go_at_call 30; refine Calls.mono HPA.out ?_; rintro e w1 ⟨a1, c1, rfl, hb1, hx1⟩
               clear b0 b1 b2 b3
               obtain ⟨b0, b1, b2, b3⟩ := cells_4 hx1
               have HB1 : Hid _ := hb1
               have HX1 : Hid _ := hx1
               clear hb1 hx1)
            | (go_at_call 36; refine Calls.mono (HOF.out w1 HB1.out) ?_; rintro e w2 ⟨rfl, rfl⟩)
            | (go_at_call 44; refine (find_any a c l s i w2 (HL.out.below HB1.out) hlen HO.out).mono ?_; rintro e w3 ⟨nn, he, _, hb3⟩
               rw [HHB.out] at he
               subst he
               clear b0 b1 b2 b3
               obtain ⟨b0, b1, b2, b3⟩ := cells_4 (kept_block hb3 HX1.out)
               have HB3 : Hid _ := xtrans2 HB1.out hb3
               clear hb3)
            | fail)
          go_ret
          exact ⟨rfl, HB3.out⟩
    · rw [if_pos h0]
      go_enter Tryz.func38, Tryz.ntmps38
      go_wp2_with (first
        | (go_at_call 30; refine Calls.mono HPA.out ?_; rintro e w1 ⟨a1, c1, rfl, hb1, hx1⟩; (have HB1 : Hid _ := hb1); clear hb1 hx1 b0 b1 b2 b3)
        | fail)
      go_ret
      exact ⟨rfl, HB1.out⟩
set_option maxHeartbeats 16000000 in
set_option maxRecDepth 100000 in
theorem may_none (w : World) (s i : Int) (p : ByteArray) (k f : Int) (a : Option Addr) (c : Nat) (l : List He) (hg : Ground w) (hof : ∀ w1, Below w.heap.size w w1 → Calls Tryz.prog 36 #[.pointer none, .int .i64 s] w1 fun e w' => e = .returned (.slice a l.length c) ∧ w' = w1) (hl : Hl w a c l) (hlen : l.length ≤ 100000) (ho : Ord l) :
    Calls Tryz.prog 38 #[.pointer none, .int .i64 s, watV i p k f] w fun e w' => e = .returned (.int .i64 (mayL l true s i p k f)) ∧ Below w.heap.size w w' := by
  unfold mayL
  cases hnb : numsB s i f with
  | true =>
    rw [if_pos rfl]
    exact may_nums _ w s i p k f hnb
  | false =>
    rw [if_neg (by decide)]
    obtain ⟨n1, n2, n3, n4, n5, n6⟩ := nums_no hnb
    clear hnb
    have hb0 : Below w.heap.size w (w.alloc (.cells #[.int .i64 i, .string p, .int .i64 k, .int .i64 f] 40)) := (Below.refl _ _).alloc (Nat.le_refl _) _
    have hx0 : (w.alloc (.cells #[.int .i64 i, .string p, .int .i64 k, .int .i64 f] 40)).heap[w.heap.size]? = some (.cells #[.int .i64 i, .string p, .int .i64 k, .int .i64 f] 40 (0, 0)) := heap_alloc_new _ _
    obtain ⟨b0, b1, b2, b3⟩ := cells_4 hx0
    have HX0 : Hid _ := hx0
    have HPA : Hid _ := parse_any p _ (hg.below hb0)
    have HB0 : Hid _ := hb0
    have HL : Hid (Hl w a c l) := hl
    have HO : Hid (Ord l) := ho
    have HOF : Hid _ := hof
    obtain ⟨pc, hpc⟩ : ∃ pc, (parse p).1 = pc := ⟨_, rfl⟩
    obtain ⟨pn, hpn⟩ : ∃ pn, (parse p).2 = pn := ⟨_, rfl⟩
    rw [hpc]
    have HPA : Hid (Calls Tryz.prog 30 #[.string p] (w.alloc (.cells #[.int .i64 i, .string p, .int .i64 k, .int .i64 f] 40)) fun e w' => ∃ a c, e = .returned (.tuple #[.slice a pn.length c, .int .i64 pc]) ∧ Below w.heap.size w w' ∧ w'.heap[w.heap.size]? = some (.cells #[.int .i64 i, .string p, .int .i64 k, .int .i64 f] 40 (0, 0))) := by
      refine Calls.mono HPA.out ?_
      rintro e w' ⟨a, c, he, _, hb⟩
      rw [hpc, hpn] at he
      exact ⟨a, c, he, xtrans2 HB0.out hb, kept_block hb HX0.out⟩
    clear hpc hpn hg hof hl ho hb0 hx0
    by_cases h0 : pc = 0
    · subst h0
      rw [if_neg (by simp)]
      obtain ⟨hb, hhb⟩ : ∃ hb, hasH l s i = hb := ⟨_, rfl⟩
      have HHB : Hid (hasH l s i = hb) := hhb
      rw [hhb]
      clear hhb
      by_cases hk1 : k < 1
      · rw [if_pos (.inl hk1)]
        go_enter Tryz.func38, Tryz.ntmps38
        go_wp2_with (first
          | (go_at_call 30; refine Calls.mono HPA.out ?_; rintro e w1 ⟨a1, c1, rfl, hb1, hx1⟩
             clear b0 b1 b2 b3
             obtain ⟨b0, b1, b2, b3⟩ := cells_4 hx1
             have HB1 : Hid _ := hb1
             have HX1 : Hid _ := hx1
             clear hb1 hx1)
          | (go_at_call 36; refine Calls.mono (HOF.out w1 HB1.out) ?_; rintro e w2 ⟨rfl, rfl⟩)
          | (go_at_call 44; refine (find_any a c l s i w2 (HL.out.below HB1.out) hlen HO.out).mono ?_; rintro e w3 ⟨nn, he, _, hb3⟩
             rw [HHB.out] at he
             subst he
             clear b0 b1 b2 b3
             obtain ⟨b0, b1, b2, b3⟩ := cells_4 (kept_block hb3 HX1.out)
             have HB3 : Hid _ := xtrans2 HB1.out hb3
             clear hb3)
          | fail)
        go_ret
        exact ⟨rfl, HB3.out⟩
      by_cases hk2 : (3 : Int) < k
      · rw [if_pos (.inr (.inl hk2))]
        go_enter Tryz.func38, Tryz.ntmps38
        go_wp2_with (first
          | (go_at_call 30; refine Calls.mono HPA.out ?_; rintro e w1 ⟨a1, c1, rfl, hb1, hx1⟩
             clear b0 b1 b2 b3
             obtain ⟨b0, b1, b2, b3⟩ := cells_4 hx1
             have HB1 : Hid _ := hb1
             have HX1 : Hid _ := hx1
             clear hb1 hx1)
          | (go_at_call 36; refine Calls.mono (HOF.out w1 HB1.out) ?_; rintro e w2 ⟨rfl, rfl⟩)
          | (go_at_call 44; refine (find_any a c l s i w2 (HL.out.below HB1.out) hlen HO.out).mono ?_; rintro e w3 ⟨nn, he, _, hb3⟩
             rw [HHB.out] at he
             subst he
             clear b0 b1 b2 b3
             obtain ⟨b0, b1, b2, b3⟩ := cells_4 (kept_block hb3 HX1.out)
             have HB3 : Hid _ := xtrans2 HB1.out hb3
             clear hb3)
          | fail)
        go_ret
        exact ⟨rfl, HB3.out⟩
      cases hb with
      | true =>
        rw [if_pos (.inr (.inr rfl))]
        go_enter Tryz.func38, Tryz.ntmps38
        go_wp2_with (first
          | (go_at_call 30; refine Calls.mono HPA.out ?_; rintro e w1 ⟨a1, c1, rfl, hb1, hx1⟩
             clear b0 b1 b2 b3
             obtain ⟨b0, b1, b2, b3⟩ := cells_4 hx1
             have HB1 : Hid _ := hb1
             have HX1 : Hid _ := hx1
             clear hb1 hx1)
          | (go_at_call 36; refine Calls.mono (HOF.out w1 HB1.out) ?_; rintro e w2 ⟨rfl, rfl⟩)
          | (go_at_call 44; refine (find_any a c l s i w2 (HL.out.below HB1.out) hlen HO.out).mono ?_; rintro e w3 ⟨nn, he, _, hb3⟩
             rw [HHB.out] at he
             subst he
             clear b0 b1 b2 b3
             obtain ⟨b0, b1, b2, b3⟩ := cells_4 (kept_block hb3 HX1.out)
             have HB3 : Hid _ := xtrans2 HB1.out hb3
             clear hb3)
          | fail)
        go_ret
        exact ⟨rfl, HB3.out⟩
      | false =>
        rw [if_neg (by rintro (h | h | h); exact hk1 h; exact hk2 h; cases h)]
        rw [if_pos (.inl rfl)]
        go_enter Tryz.func38, Tryz.ntmps38
        go_wp2_with (first
          | (go_at_call 30; refine Calls.mono HPA.out ?_; rintro e w1 ⟨a1, c1, rfl, hb1, hx1⟩
             clear b0 b1 b2 b3
             obtain ⟨b0, b1, b2, b3⟩ := cells_4 hx1
             have HB1 : Hid _ := hb1
             have HX1 : Hid _ := hx1
             clear hb1 hx1)
          | (go_at_call 36; refine Calls.mono (HOF.out w1 HB1.out) ?_; rintro e w2 ⟨rfl, rfl⟩)
          | (go_at_call 44; refine (find_any a c l s i w2 (HL.out.below HB1.out) hlen HO.out).mono ?_; rintro e w3 ⟨nn, he, _, hb3⟩
             rw [HHB.out] at he
             subst he
             clear b0 b1 b2 b3
             obtain ⟨b0, b1, b2, b3⟩ := cells_4 (kept_block hb3 HX1.out)
             have HB3 : Hid _ := xtrans2 HB1.out hb3
             clear hb3)
          | fail)
        go_ret
        exact ⟨rfl, HB3.out⟩
    · rw [if_pos h0]
      go_enter Tryz.func38, Tryz.ntmps38
      go_wp2_with (first
        | (go_at_call 30; refine Calls.mono HPA.out ?_; rintro e w1 ⟨a1, c1, rfl, hb1, hx1⟩; (have HB1 : Hid _ := hb1); clear hb1 hx1 b0 b1 b2 b3)
        | fail)
      go_ret
      exact ⟨rfl, HB1.out⟩
end Go.Proofs.YtbblckcjedjbcaaGreatDoor
