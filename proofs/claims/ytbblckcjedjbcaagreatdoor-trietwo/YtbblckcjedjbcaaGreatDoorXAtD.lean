/-
  trie by its watches: Drop, Forget, Of, and the law's walk.
-/
import Derived.Test.YtbblckcjedjbcaaGreatDoorXWalkL
import Derived.Test.YtbblckcjedjbcaaGreatDoorXForget
import Derived.Test.YtbblckcjedjbcaaGreatDoorXDropT
namespace Go.Proofs.YtbblckcjedjbcaaGreatDoor
open Go.RowKit Go.Maps
set_option linter.unusedVariables false
set_option linter.unusedSimpArgs false

def delO (L : List On) (s i : Int) : List On := L.filter (fun x => !(decide (x.s = s) && decide (x.i = i)))
theorem del_on (s i : Int) (hs : List He) : (delH s i hs).map He.on = delO (hs.map He.on) s i := by
  unfold delH delO
  rw [List.filter_map]
  rfl
def forO (L : List On) (s : Int) : List On := L.filter (fun x => !decide (x.s = s))
theorem for_on (s : Int) (hs : List He) : (hs.filter (fun x => !decide (x.s = s))).map He.on = forO (hs.map He.on) s := by
  unfold forO
  rw [List.filter_map]
  rfl
/-- What Drop answers. -/
def dropC (L : List On) (s i : Int) : Int := if hasO L s i = true then 0 else 90
theorem has_on (hs : List He) (s i : Int) : hasH (ofS hs s) s i = hasO (hs.map He.on) s i := by
  rw [Bool.eq_iff_iff, hasH_iff, hasO_iff]
  constructor
  · rintro ⟨h, hh, h1, h2⟩
    exact ⟨h.on, List.mem_map.2 ⟨h, (ofS_mem.1 hh).1, rfl⟩, h1, h2⟩
  · rintro ⟨x, hx, h1, h2⟩
    obtain ⟨h, hh, rfl⟩ := List.mem_map.1 hx
    exact ⟨h, ofS_mem.2 ⟨hh, h1⟩, h1, h2⟩
theorem delO_none {L : List On} {s i : Int} (h : hasO L s i = false) : delO L s i = L := by
  refine List.filter_eq_self.2 (fun x hx => ?_)
  by_cases e : x.s = s ∧ x.i = i
  · have := hasO_iff.2 ⟨x, hx, e⟩
    rw [h] at this
    cases this
  · simp only [Bool.not_eq_true', Bool.and_eq_false_iff, decide_eq_false_iff_not]
    by_cases e1 : x.s = s
    · exact .inr (fun e2 => e ⟨e1, e2⟩)
    · exact .inl e1
theorem Dropt.at {w : World} {K : Nat → Prop} {B : Nat} {y : Lay} {D : List Way} {sb : Nat} {τ : Int → Value} {hs' : List He} {w' : World} (h : Dropt w B y D sb τ hs' w') (hK : ∀ k, Tf y D (some sb) τ k → K k) (hH : ∀ x ∈ hs', K x.b) : ∃ K', At w' K' B (hs'.map He.on) ∧ AtE w w' K K' := by
  obtain ⟨y', D', τ', hT', hE⟩ := h
  refine ⟨fun k => Tf y' D' (some sb) τ' k ∨ ∃ x ∈ hs', x.b = k, ⟨y', D', some sb, τ', hs', hT', rfl, fun k hk => .inl hk, fun x hx => .inr ⟨x, hx, rfl⟩, fun k hk => ?_⟩, hE.chg.mono (fun k _ e => hK k e), fun k hk => ?_⟩
  · rcases hk with (hk | hk) | ⟨x, hx, rfl⟩
    · exact hT'.tr.lt (.inl hk)
    · exact hT'.ses.lt hk
    · exact lt_of_blk (hT'.tr.held x hx)
  · rcases hk with hk | ⟨x, hx, rfl⟩
    · exact (hE.new k hk).imp (hK k) id
    · exact .inl (hH x hx)
theorem dropA (w : World) (K : Nat → Prop) (B : Nat) (L : List On) (s i : Int) (hA : At w K B L) (hg : Ground w) (hlen : L.length ≤ 1000) (hwf : wfI s) :
    Calls Tryz.prog 19 #[ndV B, .int .i64 s, .int .i64 i] w fun e w' => e = .returned (.int .i64 (dropC L s i)) ∧ ∃ K', At w' K' B (delO L s i) ∧ AtE w w' K K' := by
  obtain ⟨y, D, σ, τ, hs, hT, rfl, hK, hH, hZ⟩ := hA
  rw [List.length_map] at hlen
  unfold dropC
  by_cases h0 : hasO (hs.map He.on) s i = true
  · rw [if_pos h0]
    obtain ⟨o, ho, h1, h2⟩ := hasO_iff.1 h0
    obtain ⟨h, hh, rfl⟩ := List.mem_map.1 ho
    obtain ⟨sb, rfl⟩ : ∃ sb, σ = some sb := by
      rcases hT.ses.map with ⟨_, h3⟩ | ⟨b, _, h3, _⟩
      · rw [h3] at hh; cases hh
      · exact ⟨b, h3⟩
    refine (drop_ok w B y D sb τ hs s i h hT hg hlen hwf hh h1 h2).mono ?_
    rintro e w' ⟨he, hd⟩
    refine ⟨he, ?_⟩
    rw [← del_on]
    exact hd.at hK (fun x hx => hH x (del_mem.1 hx).1)
  · rw [if_neg h0]
    have h1 : hasO (hs.map He.on) s i = false := by simpa using h0
    refine (drop_no w B y D σ τ hs s i hT hlen hwf (by rw [has_on]; exact h1)).mono ?_
    rintro e w' ⟨he, hb⟩
    rw [delO_none h1]
    exact ⟨he, K, ⟨y, D, σ, τ, hs, hT.below hb, rfl, hK, hH, fun k hk => Nat.lt_of_lt_of_le (hZ k hk) hb.size⟩, Chg.of_below hb _, fun k hk => .inl hk⟩
theorem forgetA (w : World) (K : Nat → Prop) (B : Nat) (L : List On) (s : Int) (hA : At w K B L) (hg : Ground w) (hgl : Gl K) (hlen : L.length ≤ 1000) (hwf : wfI s) :
    Calls Tryz.prog 23 #[ndV B, .int .i64 s] w fun e w' => e = .returned (.int .i64 ((ofO L s).length : Nat)) ∧ ∃ K', At w' K' B (forO L s) ∧ AtE w w' K K' := by
  obtain ⟨y, D, σ, τ, hs, hT, rfl, hK, hH, hZ⟩ := hA
  rw [List.length_map] at hlen
  have hof : (ofO (hs.map He.on) s).length = (ofS hs s).length := by rw [← of_on, List.length_map]
  rw [hof]
  by_cases h0 : ofS hs s = []
  · refine (forget_none w B y D σ τ hs s hT hwf h0).mono ?_
    rintro e w' ⟨he, rfl⟩
    rw [h0]
    have hsame : forO (hs.map He.on) s = hs.map He.on := by
      rw [← for_on, List.filter_eq_self.2]
      intro x hx
      have : ¬ x.s = s := fun e => by
        have := ofS_mem.2 ⟨hx, e⟩
        rw [h0] at this
        cases this
      simp [this]
    rw [hsame]
    exact ⟨he, K, ⟨y, D, σ, τ, hs, hT, rfl, hK, hH, hZ⟩, Chg.refl _ _, fun k hk => .inl hk⟩
  · obtain ⟨sb, rfl⟩ : ∃ sb, σ = some sb := by
      rcases hT.ses.map with ⟨_, h3⟩ | ⟨b, _, h3, _⟩
      · exact absurd (by rw [h3]; rfl) h0
      · exact ⟨b, h3⟩
    refine (forget_ok w B y D sb τ hs s hT hg (fun k hk => ⟨fun e => hgl.1 (e ▸ hK k hk), fun e => hgl.2 (e ▸ hK k hk)⟩) hlen hwf h0).mono ?_
    rintro e w' ⟨he, hd⟩
    refine ⟨he, ?_⟩
    rw [← for_on]
    exact hd.at hK (fun x hx => hH x (List.mem_filter.1 hx).1)
/-- A session's watches. -/
def wasO (L : List On) (s : Int) : List Wa := (ofO L s).map On.wa
theorem ofA (w : World) (K : Nat → Prop) (B : Nat) (L : List On) (s : Int) (hA : At w K B L) (hlen : L.length ≤ 1000) (hwf : wfI s) :
    Calls Tryz.prog 14 #[ndV B, .int .i64 s] w fun e w' => ∃ v, e = .returned v ∧ w'.ownsRow w.heap.size 40 4 v (wasO L s).length (waCs (wasO L s)) ∧ Below w.heap.size w w' := by
  obtain ⟨y, D, σ, τ, hs, hT, rfl, hK, hH, hZ⟩ := hA
  rw [List.length_map] at hlen
  have h1 : wasO (hs.map He.on) s = (ofS hs s).map He.wa := by
    unfold wasO
    rw [← of_on, List.map_map]
    rfl
  rw [h1]
  exact of_ok w B y D σ τ hs s hT hlen hwf
def hereO (L : List On) (p : Way) : List On := L.filter (fun o => decide ((parse o.p).2 = p))
def allSO (D : List Way) (L : List On) (p : Way) (R : Way → List On) : List On := hereO L p ++ (sortX (kidsB D p)).flatMap (fun l => R (wayOf p l))
def allO (D : List Way) (L : List On) : Nat → Way → List On
  | 0, p => allSO D L p (fun _ => [])
  | d + 1, p => allSO D L p (allO D L d)
theorem here_on (hs : List He) (p : Way) : (here hs p).map He.on = hereO (hs.map He.on) p := by
  unfold here hereO
  rw [List.filter_map]
  rfl
theorem sortX_same {D D' : List Way} (hd : D.Nodup) (hd' : D'.Nodup) (h : ∀ q, q ∈ D ↔ q ∈ D') (p : Way) : sortX (kidsB D p) = sortX (kidsB D' p) := by
  refine sortX_only (((sortX_perm _).trans ?_)) (sortX_asc _)
  exact (List.perm_ext_iff_of_nodup (kidsB_nodup hd p) (kidsB_nodup hd' p)).2 (fun l => by rw [kidsB_in, kidsB_in, h])
theorem all_on {D D' : List Way} (hd : D.Nodup) (hd' : D'.Nodup) (h : ∀ q, q ∈ D ↔ q ∈ D') (hs : List He) : ∀ (d : Nat) (p : Way), (allH D hs d p).map He.on = allO D' (hs.map He.on) d p := by
  intro d
  induction d with
  | zero =>
    intro p
    simp only [allH, allO, allS, allSO]
    rw [List.map_append, here_on, List.map_flatMap, sortX_same hd hd' h]
    rfl
  | succ d ih =>
    intro p
    simp only [allH, allO, allS, allSO]
    rw [List.map_append, here_on, List.map_flatMap, sortX_same hd hd' h]
    simp only [ih]
/-- What Walk hands on. -/
def walkO (L : List On) : List On := allO (closeO L) L 6 []
theorem close_on {w : World} {B : Nat} {y : Lay} {D : List Way} {σ : Option Nat} {τ : Int → Value} {hs : List He} (h : TrieAt w B y D σ τ hs) : (closeO (hs.map He.on)).Nodup ∧ ∀ q, q ∈ D ↔ q ∈ closeO (hs.map He.on) := by
  obtain ⟨h1, h2⟩ := close_fold (hs.map He.on) [[]] (by simp) (by simp)
  refine ⟨h1, fun q => ?_⟩
  rw [h.cls]
  show _ ↔ q ∈ (hs.map He.on).foldl (fun D o => addW D [] (parse o.p).2) [[]]
  rw [h2]
  constructor
  · rintro (rfl | ⟨x, hx, hp⟩)
    · exact .inl (by simp)
    · exact .inr ⟨x.on, List.mem_map.2 ⟨x, hx, rfl⟩, hp⟩
  · rintro (h | ⟨o, ho, hp⟩)
    · exact .inl (by simpa using h)
    · obtain ⟨x, hx, rfl⟩ := List.mem_map.1 ho
      exact .inr ⟨x, hx, hp⟩
theorem wk_on {w : World} {B : Nat} {y : Lay} {D : List Way} {σ : Option Nat} {τ : Int → Value} {hs : List He} (h : TrieAt w B y D σ τ hs) : (wkL D hs).map He.on = walkO (hs.map He.on) :=
  all_on h.tr.dn (close_on h).1 (close_on h).2 hs 6 []
/-- Seats, as cells. -/
abbrev On.sc (o : On) : List Value := [.string o.p, .int .i64 o.s, .int .i64 o.i]
def scO (L : List On) : List Value := L.flatMap On.sc
theorem sc_on (l : List He) : scs l = scO (l.map He.on) := by
  unfold scs scO
  rw [List.flatMap_map]
  rfl
theorem walkA (w : World) (K : Nat → Prop) (B : Nat) (L : List On) (hA : At w K B L) (hlen : L.length ≤ 1000) :
    Calls Tryz.prog 11 #[ndV B] w fun e w' => ∃ v, e = .returned (.tuple #[v, .bool true]) ∧ w'.ownsRow w.heap.size 36 3 v (walkO L).length (scO (walkO L)) ∧ Below w.heap.size w w' := by
  obtain ⟨y, D, σ, τ, hs, hT, rfl, hK, hH, hZ⟩ := hA
  rw [List.length_map] at hlen
  have h1 := walkL_any B y D σ τ hs w hT hlen
  rw [sc_on, show (wkL D hs).length = ((wkL D hs).map He.on).length by rw [List.length_map], wk_on hT] at h1
  exact h1
theorem walkO_perm {w : World} {K : Nat → Prop} {B : Nat} {L : List On} (hA : At w K B L) : (walkO L).Perm L := by
  obtain ⟨y, D, σ, τ, hs, hT, rfl, hK, hH, hZ⟩ := hA
  rw [← wk_on hT]
  refine List.Perm.map _ ((List.perm_ext_iff_of_nodup ?_ ?_).2 (wk_mem hT))
  · exact all_nodup D hs hT.tr.dn hT.tr.ord hT.tr.up hT.way_in 6 [] (wk_len hT)
  · exact ord_nodup hT.tr.ord
end Go.Proofs.YtbblckcjedjbcaaGreatDoor
