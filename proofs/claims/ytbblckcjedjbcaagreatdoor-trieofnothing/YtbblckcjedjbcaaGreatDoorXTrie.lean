/-
  trie: a whole trie; of, mayAdd.
-/
import Derived.Test.YtbblckcjedjbcaaGreatDoorXSes
namespace Go.Proofs.YtbblckcjedjbcaaGreatDoor
open Go.RowKit Go.Maps
set_option linter.unusedVariables false
set_option linter.unusedSimpArgs false

structure TrieAt (w : World) (B : Nat) (y : Lay) (D : List Way) (σ : Option Nat) (τ : Int → Value) (hs : List He) : Prop where
  tr : Tr w y D hs
  top : y.β [] = B
  sig : y.σ = .map σ
  ses : SesAt w σ τ hs
  sρ : ∀ s, ∀ p ∈ D, ∀ k, (τ s).ownBlock = some k → (y.ρ p).ownBlock ≠ some k
  sμ : ∀ p ∈ D, ∀ k, σ = some k → y.μ p ≠ some k
  ok : ∀ h ∈ hs, parse h.p = (0, h.way)
  cls : ∀ q, q ∈ D ↔ q = [] ∨ ∃ h ∈ hs, q <+: h.way
/-- What it lies in. -/
def Tf (y : Lay) (D : List Way) (σ : Option Nat) (τ : Int → Value) (k : Nat) : Prop := Wt y D k ∨ Sf σ τ k
theorem TrieAt.chg {w w' : World} {B : Nat} {y : Lay} {D : List Way} {σ : Option Nat} {τ : Int → Value} {hs : List He} {S : Nat → Prop} (h : TrieAt w B y D σ τ hs) (hc : Chg w w' S) (hS : ∀ k, Tf y D σ τ k → ¬ S k) (hH : ∀ x ∈ hs, ¬ S x.b) : TrieAt w' B y D σ τ hs :=
  { h with
    tr := h.tr.chg hc (fun k hk => hk.elim (fun e => hS k (.inl e)) (fun ⟨x, hx, e⟩ => e ▸ hH x hx))
    ses := h.ses.chg hc (fun k hk => hS k (.inr hk)) }
theorem TrieAt.below {w w' : World} {B : Nat} {y : Lay} {D : List Way} {σ : Option Nat} {τ : Int → Value} {hs : List He} (h : TrieAt w B y D σ τ hs) (hb : Below w.heap.size w w') : TrieAt w' B y D σ τ hs := { h with tr := h.tr.below hb, ses := h.ses.below hb }
theorem TrieAt.way_in {w : World} {B : Nat} {y : Lay} {D : List Way} {σ : Option Nat} {τ : Int → Value} {hs : List He} (h : TrieAt w B y D σ τ hs) : ∀ x ∈ hs, x.way ∈ D := fun x hx => (h.cls x.way).2 (.inr ⟨x, hx, List.prefix_refl _⟩)
theorem TrieAt.cells {w : World} {B : Nat} {y : Lay} {D : List Way} {σ : Option Nat} {τ : Int → Value} {hs : List He} (h : TrieAt w B y D σ τ hs) : w.cell? ⟨B, 0, none⟩ = some (.map (y.μ [])) ∧ w.cell? ⟨B, 1, none⟩ = some (y.ρ []) ∧ w.cell? ⟨B, 2, none⟩ = some (.map σ) ∧ ∀ o, w.frozen? ⟨B, o, none⟩ = false := by
  obtain ⟨h0, h1, h2, h3⟩ := (h.tr.nd [] h.tr.root).cells
  rw [h.top] at h0 h1 h2 h3
  rw [← h.sig]
  exact ⟨h0, h1, h2 rfl, h3⟩
theorem TrieAt.lt {w : World} {B : Nat} {y : Lay} {D : List Way} {σ : Option Nat} {τ : Int → Value} {hs : List He} (h : TrieAt w B y D σ τ hs) : B < w.heap.size := by
  obtain ⟨c, t, hb, _⟩ := h.tr.kβ h.tr.root
  rw [h.top] at hb
  exact lt_of_blk hb
/-- All beginnings of a way. -/
def waysTo (q : Way) : List Way := (List.range (q.length + 1)).map (fun n => q.take n)
theorem waysTo_len (q : Way) : (waysTo q).length = q.length + 1 := by simp [waysTo]
theorem waysTo_mem {p q : Way} : p ∈ waysTo q ↔ p <+: q := by
  unfold waysTo
  rw [List.mem_map]
  constructor
  · rintro ⟨n, _, rfl⟩
    exact List.take_prefix _ _
  · intro h
    exact ⟨p.length, List.mem_range.2 (by have := h.length_le; omega), (List.prefix_iff_eq_take.1 h).symm⟩
theorem TrieAt.lenD {w : World} {B : Nat} {y : Lay} {D : List Way} {σ : Option Nat} {τ : Int → Value} {hs : List He} (h : TrieAt w B y D σ τ hs) : D.length ≤ 1 + hs.length * 7 := by
  have hsub : D ⊆ [] :: hs.flatMap (fun x => waysTo x.way) := fun q hq => by
    rcases (h.cls q).1 hq with rfl | ⟨x, hx, hp⟩
    · exact List.mem_cons_self
    · exact List.mem_cons_of_mem _ (List.mem_flatMap.2 ⟨x, hx, waysTo_mem.2 hp⟩)
  have h1 := List.Nodup.length_le_of_subset h.tr.dn hsub
  have h2 : (hs.flatMap (fun x => waysTo x.way)).length ≤ hs.length * 7 := by
    have hok := h.ok
    clear h h1 hsub
    induction hs with
    | nil => simp
    | cons x r ih =>
      have := ih (fun y hy => hok y (List.mem_cons_of_mem _ hy))
      have hx := (parse_len (hok x List.mem_cons_self)).1
      rw [List.flatMap_cons, List.length_append, waysTo_len, List.length_cons]
      omega
  rw [List.length_cons] at h1
  omega
def wfI (n : Int) : Prop := (Lit.int .i64 n).wf = true
set_option maxHeartbeats 3200000 in
theorem of_any (w : World) (B : Nat) (y : Lay) (D : List Way) (σ : Option Nat) (τ : Int → Value) (hs : List He) (s : Int) (h : TrieAt w B y D σ τ hs) (hwf : wfI s) :
    Calls Tryz.prog 36 #[ndV B, .int .i64 s] w fun e w' => e = .returned (τ s) ∧ w' = w := by
  obtain ⟨c0, c1, c2, fz⟩ := h.cells
  have hg := h.ses.get hwf
  clear h hwf
  go_enter Tryz.func36, Tryz.ntmps36
  go_wp2_with fail
  go_ret
  exact ⟨rfl, rfl⟩
theorem of_nil (w : World) (s : Int) :
    Calls Tryz.prog 36 #[.pointer none, .int .i64 s] w fun e w' => e = .returned (.slice none 0 0) ∧ w' = w := by
  go_enter Tryz.func36, Tryz.ntmps36
  go_wp2_with fail
  go_ret
  exact ⟨rfl, rfl⟩
abbrev watV (i : Int) (p : ByteArray) (k f : Int) : Value := .agg #[.int .i64 i, .string p, .int .i64 k, .int .i64 f]
/-- Whether the numbers of a watch may be. -/
def numsB (s i f : Int) : Bool := decide (s < 1) || decide (s > 2147483647) || decide (i < 1) || decide (i > 2147483647) || decide (f < 0) || decide (f > 2147483647)
/-- What mayAdd says, l being the session's watches. -/
def mayL (l : List He) (full : Bool) (s i : Int) (p : ByteArray) (k f : Int) : Int :=
  if numsB s i f then 3 else if (parse p).1 ≠ 0 then 10 else if k < 1 ∨ k > 3 ∨ hasH l s i = true then 90 else if full = true ∨ 4 ≤ l.length then 46 else 0
set_option maxHeartbeats 16000000 in
theorem may_nums (t : Value) (w : World) (s i : Int) (p : ByteArray) (k f : Int) (h : numsB s i f = true) :
    Calls Tryz.prog 38 #[t, .int .i64 s, watV i p k f] w fun e w' => e = .returned (.int .i64 3) ∧ Below w.heap.size w w' := by
  obtain ⟨b0, b1, b2, b3⟩ := cells_4 (heap_alloc_new w (.cells #[.int .i64 i, .string p, .int .i64 k, .int .i64 f] 40))
  unfold numsB at h
  simp only [Bool.or_eq_true, decide_eq_true_eq] at h
  by_cases h1 : s < 1
  · go_enter Tryz.func38, Tryz.ntmps38
    go_wp2_with fail
    go_ret
    exact ⟨rfl, (Below.refl _ _).alloc (Nat.le_refl _) _⟩
  by_cases h2 : (2147483647 : Int) < s
  · go_enter Tryz.func38, Tryz.ntmps38
    go_wp2_with fail
    go_ret
    exact ⟨rfl, (Below.refl _ _).alloc (Nat.le_refl _) _⟩
  by_cases h3 : i < 1
  · go_enter Tryz.func38, Tryz.ntmps38
    go_wp2_with fail
    go_ret
    exact ⟨rfl, (Below.refl _ _).alloc (Nat.le_refl _) _⟩
  by_cases h4 : (2147483647 : Int) < i
  · go_enter Tryz.func38, Tryz.ntmps38
    go_wp2_with fail
    go_ret
    exact ⟨rfl, (Below.refl _ _).alloc (Nat.le_refl _) _⟩
  by_cases h5 : f < 0
  · go_enter Tryz.func38, Tryz.ntmps38
    go_wp2_with fail
    go_ret
    exact ⟨rfl, (Below.refl _ _).alloc (Nat.le_refl _) _⟩
  · have h6 : (2147483647 : Int) < f := by omega
    go_enter Tryz.func38, Tryz.ntmps38
    go_wp2_with fail
    go_ret
    exact ⟨rfl, (Below.refl _ _).alloc (Nat.le_refl _) _⟩
theorem nums_no {s i f : Int} (h : numsB s i f = false) : ¬ s < 1 ∧ ¬ (2147483647 : Int) < s ∧ ¬ i < 1 ∧ ¬ (2147483647 : Int) < i ∧ ¬ f < 0 ∧ ¬ (2147483647 : Int) < f := by
  unfold numsB at h
  simp only [Bool.or_eq_false_iff, decide_eq_false_iff_not] at h
  omega
set_option maxHeartbeats 16000000 in
set_option maxRecDepth 100000 in
theorem may_some (B : Nat) (w : World) (s i : Int) (p : ByteArray) (k f : Int) (a : Option Addr) (c : Nat) (l : List He) (hg : Ground w) (hof : ∀ w1, Below w.heap.size w w1 → Calls Tryz.prog 36 #[ndV B, .int .i64 s] w1 fun e w' => e = .returned (.slice a l.length c) ∧ w' = w1) (hl : Hl w a c l) (hlen : l.length ≤ 100000) (ho : Ord l) :
    Calls Tryz.prog 38 #[ndV B, .int .i64 s, watV i p k f] w fun e w' => e = .returned (.int .i64 (mayL l false s i p k f)) ∧ Below w.heap.size w w' := by
  unfold mayL
  cases hnb : numsB s i f with
  | true =>
    rw [if_pos rfl]
    exact may_nums _ w s i p k f hnb
  | false =>
    rw [if_neg (by decide)]
    obtain ⟨n1, n2, n3, n4, n5, n6⟩ := nums_no hnb
    clear hnb
    have hb0 : Below w.heap.size w (w.alloc (.cells #[.int .i64 i, .string p, .int .i64 k, .int .i64 f] 40)) := (Below.refl _ _).alloc (Nat.le_refl _) _
    have hx0 : (w.alloc (.cells #[.int .i64 i, .string p, .int .i64 k, .int .i64 f] 40)).heap[w.heap.size]? = some (.cells #[.int .i64 i, .string p, .int .i64 k, .int .i64 f] 40 (0, 0)) := heap_alloc_new _ _
    obtain ⟨b0, b1, b2, b3⟩ := cells_4 hx0
    have HX0 : Hid _ := hx0
    have HPA : Hid _ := parse_any p _ (hg.below hb0)
    have HB0 : Hid _ := hb0
    have HL : Hid (Hl w a c l) := hl
    have HO : Hid (Ord l) := ho
    have HOF : Hid _ := hof
    obtain ⟨pc, hpc⟩ : ∃ pc, (parse p).1 = pc := ⟨_, rfl⟩
    obtain ⟨pn, hpn⟩ : ∃ pn, (parse p).2 = pn := ⟨_, rfl⟩
    rw [hpc]
    have HPA : Hid (Calls Tryz.prog 30 #[.string p] (w.alloc (.cells #[.int .i64 i, .string p, .int .i64 k, .int .i64 f] 40)) fun e w' => ∃ a c, e = .returned (.tuple #[.slice a pn.length c, .int .i64 pc]) ∧ Below w.heap.size w w' ∧ w'.heap[w.heap.size]? = some (.cells #[.int .i64 i, .string p, .int .i64 k, .int .i64 f] 40 (0, 0))) := by
      refine Calls.mono HPA.out ?_
      rintro e w' ⟨a, c, he, _, hb⟩
      rw [hpc, hpn] at he
      exact ⟨a, c, he, xtrans2 HB0.out hb, kept_block hb HX0.out⟩
    clear hpc hpn hg hof hl ho hb0 hx0
    by_cases h0 : pc = 0
    · subst h0
      rw [if_neg (by simp)]
      obtain ⟨hb, hhb⟩ : ∃ hb, hasH l s i = hb := ⟨_, rfl⟩
      have HHB : Hid (hasH l s i = hb) := hhb
      rw [hhb]
      clear hhb
      by_cases hk1 : k < 1
      · rw [if_pos (.inl hk1)]
        go_enter Tryz.func38, Tryz.ntmps38
        go_wp2_with (first
          | (go_at_call 30; refine Calls.mono HPA.out ?_; rintro e w1 ⟨a1, c1, rfl, hb1, hx1⟩
             clear b0 b1 b2 b3
             obtain ⟨b0, b1, b2, b3⟩ := cells_4 hx1
             have HB1 : Hid _ := hb1
             have HX1 : Hid _ := hx1
             clear hb1 hx1)
          | (go_at_call 36; refine Calls.mono (HOF.out w1 HB1.out) ?_; rintro e w2 ⟨rfl, rfl⟩)
          | (go_at_call 44; refine (find_any a c l s i w2 (HL.out.below HB1.out) hlen HO.out).mono ?_; rintro e w3 ⟨nn, he, _, hb3⟩
             rw [HHB.out] at he
             subst he
             clear b0 b1 b2 b3
             obtain ⟨b0, b1, b2, b3⟩ := cells_4 (kept_block hb3 HX1.out)
             have HB3 : Hid _ := xtrans2 HB1.out hb3
             clear hb3)
          | fail)
        go_ret
        exact ⟨rfl, HB3.out⟩
      by_cases hk2 : (3 : Int) < k
      · rw [if_pos (.inr (.inl hk2))]
        go_enter Tryz.func38, Tryz.ntmps38
        go_wp2_with (first
          | (go_at_call 30; refine Calls.mono HPA.out ?_; rintro e w1 ⟨a1, c1, rfl, hb1, hx1⟩
             clear b0 b1 b2 b3
             obtain ⟨b0, b1, b2, b3⟩ := cells_4 hx1
             have HB1 : Hid _ := hb1
             have HX1 : Hid _ := hx1
             clear hb1 hx1)
          | (go_at_call 36; refine Calls.mono (HOF.out w1 HB1.out) ?_; rintro e w2 ⟨rfl, rfl⟩)
          | (go_at_call 44; refine (find_any a c l s i w2 (HL.out.below HB1.out) hlen HO.out).mono ?_; rintro e w3 ⟨nn, he, _, hb3⟩
             rw [HHB.out] at he
             subst he
             clear b0 b1 b2 b3
             obtain ⟨b0, b1, b2, b3⟩ := cells_4 (kept_block hb3 HX1.out)
             have HB3 : Hid _ := xtrans2 HB1.out hb3
             clear hb3)
          | fail)
        go_ret
        exact ⟨rfl, HB3.out⟩
      cases hb with
      | true =>
        rw [if_pos (.inr (.inr rfl))]
        go_enter Tryz.func38, Tryz.ntmps38
        go_wp2_with (first
          | (go_at_call 30; refine Calls.mono HPA.out ?_; rintro e w1 ⟨a1, c1, rfl, hb1, hx1⟩
             clear b0 b1 b2 b3
             obtain ⟨b0, b1, b2, b3⟩ := cells_4 hx1
             have HB1 : Hid _ := hb1
             have HX1 : Hid _ := hx1
             clear hb1 hx1)
          | (go_at_call 36; refine Calls.mono (HOF.out w1 HB1.out) ?_; rintro e w2 ⟨rfl, rfl⟩)
          | (go_at_call 44; refine (find_any a c l s i w2 (HL.out.below HB1.out) hlen HO.out).mono ?_; rintro e w3 ⟨nn, he, _, hb3⟩
             rw [HHB.out] at he
             subst he
             clear b0 b1 b2 b3
             obtain ⟨b0, b1, b2, b3⟩ := cells_4 (kept_block hb3 HX1.out)
             have HB3 : Hid _ := xtrans2 HB1.out hb3
             clear hb3)
          | fail)
        go_ret
        exact ⟨rfl, HB3.out⟩
      | false =>
        rw [if_neg (by rintro (h | h | h); exact hk1 h; exact hk2 h; cases h)]
        by_cases hf4 : 4 ≤ l.length
        · rw [if_pos (.inr hf4)]
          have hf4' : (4 : Int) ≤ (l.length : Int) := by omega
          go_enter Tryz.func38, Tryz.ntmps38
          go_wp2_with (first
            | (go_at_call 30; refine Calls.mono HPA.out ?_; rintro e w1 ⟨a1, c1, rfl, hb1, hx1⟩
               clear b0 b1 b2 b3
               obtain ⟨b0, b1, b2, b3⟩ := cells_4 hx1
               have HB1 : Hid _ := hb1
               have HX1 : Hid _ := hx1
               clear hb1 hx1)
            | (go_at_call 36; refine Calls.mono (HOF.out w1 HB1.out) ?_; rintro e w2 ⟨rfl, rfl⟩)
            | (go_at_call 44; refine (find_any a c l s i w2 (HL.out.below HB1.out) hlen HO.out).mono ?_; rintro e w3 ⟨nn, he, _, hb3⟩
               rw [HHB.out] at he
               subst he
               clear b0 b1 b2 b3
               obtain ⟨b0, b1, b2, b3⟩ := cells_4 (kept_block hb3 HX1.out)
               have HB3 : Hid _ := xtrans2 HB1.out hb3
               clear hb3)
            | fail)
          go_ret
          exact ⟨rfl, HB3.out⟩
        · rw [if_neg (by rintro (h | h); cases h; exact hf4 h)]
          have hf4' : ¬ (4 : Int) ≤ (l.length : Int) := by omega
          go_enter Tryz.func38, Tryz.ntmps38
          go_wp2_with (first
            | (go_at_call 30; refine Calls.mono HPA.out ?_; rintro e w1 ⟨a1, c1, rfl, hb1, hx1⟩
               clear b0 b1 b2 b3
               obtain ⟨b0, b1, b2, b3⟩ := cells_4 hx1
               have HB1 : Hid _ := hb1
               have HX1 : Hid _ := hx1
               clear hb1 hx1)
            | (go_at_call 36; refine Calls.mono (HOF.out w1 HB1.out) ?_; rintro e w2 ⟨rfl, rfl⟩)
            | (go_at_call 44; refine (find_any a c l s i w2 (HL.out.below HB1.out) hlen HO.out).mono ?_; rintro e w3 ⟨nn, he, _, hb3⟩
               rw [HHB.out] at he
               subst he
               clear b0 b1 b2 b3
               obtain ⟨b0, b1, b2, b3⟩ := cells_4 (kept_block hb3 HX1.out)
               have HB3 : Hid _ := xtrans2 HB1.out hb3
               clear hb3)
            | fail)
          go_ret
          exact ⟨rfl, HB3.out⟩
    · rw [if_pos h0]
      go_enter Tryz.func38, Tryz.ntmps38
      go_wp2_with (first
        | (go_at_call 30; refine Calls.mono HPA.out ?_; rintro e w1 ⟨a1, c1, rfl, hb1, hx1⟩; (have HB1 : Hid _ := hb1); clear hb1 hx1 b0 b1 b2 b3)
        | fail)
      go_ret
      exact ⟨rfl, HB1.out⟩
set_option maxHeartbeats 16000000 in
set_option maxRecDepth 100000 in
theorem may_none (w : World) (s i : Int) (p : ByteArray) (k f : Int) (a : Option Addr) (c : Nat) (l : List He) (hg : Ground w) (hof : ∀ w1, Below w.heap.size w w1 → Calls Tryz.prog 36 #[.pointer none, .int .i64 s] w1 fun e w' => e = .returned (.slice a l.length c) ∧ w' = w1) (hl : Hl w a c l) (hlen : l.length ≤ 100000) (ho : Ord l) :
    Calls Tryz.prog 38 #[.pointer none, .int .i64 s, watV i p k f] w fun e w' => e = .returned (.int .i64 (mayL l true s i p k f)) ∧ Below w.heap.size w w' := by
  unfold mayL
  cases hnb : numsB s i f with
  | true =>
    rw [if_pos rfl]
    exact may_nums _ w s i p k f hnb
  | false =>
    rw [if_neg (by decide)]
    obtain ⟨n1, n2, n3, n4, n5, n6⟩ := nums_no hnb
    clear hnb
    have hb0 : Below w.heap.size w (w.alloc (.cells #[.int .i64 i, .string p, .int .i64 k, .int .i64 f] 40)) := (Below.refl _ _).alloc (Nat.le_refl _) _
    have hx0 : (w.alloc (.cells #[.int .i64 i, .string p, .int .i64 k, .int .i64 f] 40)).heap[w.heap.size]? = some (.cells #[.int .i64 i, .string p, .int .i64 k, .int .i64 f] 40 (0, 0)) := heap_alloc_new _ _
    obtain ⟨b0, b1, b2, b3⟩ := cells_4 hx0
    have HX0 : Hid _ := hx0
    have HPA : Hid _ := parse_any p _ (hg.below hb0)
    have HB0 : Hid _ := hb0
    have HL : Hid (Hl w a c l) := hl
    have HO : Hid (Ord l) := ho
    have HOF : Hid _ := hof
    obtain ⟨pc, hpc⟩ : ∃ pc, (parse p).1 = pc := ⟨_, rfl⟩
    obtain ⟨pn, hpn⟩ : ∃ pn, (parse p).2 = pn := ⟨_, rfl⟩
    rw [hpc]
    have HPA : Hid (Calls Tryz.prog 30 #[.string p] (w.alloc (.cells #[.int .i64 i, .string p, .int .i64 k, .int .i64 f] 40)) fun e w' => ∃ a c, e = .returned (.tuple #[.slice a pn.length c, .int .i64 pc]) ∧ Below w.heap.size w w' ∧ w'.heap[w.heap.size]? = some (.cells #[.int .i64 i, .string p, .int .i64 k, .int .i64 f] 40 (0, 0))) := by
      refine Calls.mono HPA.out ?_
      rintro e w' ⟨a, c, he, _, hb⟩
      rw [hpc, hpn] at he
      exact ⟨a, c, he, xtrans2 HB0.out hb, kept_block hb HX0.out⟩
    clear hpc hpn hg hof hl ho hb0 hx0
    by_cases h0 : pc = 0
    · subst h0
      rw [if_neg (by simp)]
      obtain ⟨hb, hhb⟩ : ∃ hb, hasH l s i = hb := ⟨_, rfl⟩
      have HHB : Hid (hasH l s i = hb) := hhb
      rw [hhb]
      clear hhb
      by_cases hk1 : k < 1
      · rw [if_pos (.inl hk1)]
        go_enter Tryz.func38, Tryz.ntmps38
        go_wp2_with (first
          | (go_at_call 30; refine Calls.mono HPA.out ?_; rintro e w1 ⟨a1, c1, rfl, hb1, hx1⟩
             clear b0 b1 b2 b3
             obtain ⟨b0, b1, b2, b3⟩ := cells_4 hx1
             have HB1 : Hid _ := hb1
             have HX1 : Hid _ := hx1
             clear hb1 hx1)
          | (go_at_call 36; refine Calls.mono (HOF.out w1 HB1.out) ?_; rintro e w2 ⟨rfl, rfl⟩)
          | (go_at_call 44; refine (find_any a c l s i w2 (HL.out.below HB1.out) hlen HO.out).mono ?_; rintro e w3 ⟨nn, he, _, hb3⟩
             rw [HHB.out] at he
             subst he
             clear b0 b1 b2 b3
             obtain ⟨b0, b1, b2, b3⟩ := cells_4 (kept_block hb3 HX1.out)
             have HB3 : Hid _ := xtrans2 HB1.out hb3
             clear hb3)
          | fail)
        go_ret
        exact ⟨rfl, HB3.out⟩
      by_cases hk2 : (3 : Int) < k
      · rw [if_pos (.inr (.inl hk2))]
        go_enter Tryz.func38, Tryz.ntmps38
        go_wp2_with (first
          | (go_at_call 30; refine Calls.mono HPA.out ?_; rintro e w1 ⟨a1, c1, rfl, hb1, hx1⟩
             clear b0 b1 b2 b3
             obtain ⟨b0, b1, b2, b3⟩ := cells_4 hx1
             have HB1 : Hid _ := hb1
             have HX1 : Hid _ := hx1
             clear hb1 hx1)
          | (go_at_call 36; refine Calls.mono (HOF.out w1 HB1.out) ?_; rintro e w2 ⟨rfl, rfl⟩)
          | (go_at_call 44; refine (find_any a c l s i w2 (HL.out.below HB1.out) hlen HO.out).mono ?_; rintro e w3 ⟨nn, he, _, hb3⟩
             rw [HHB.out] at he
             subst he
             clear b0 b1 b2 b3
             obtain ⟨b0, b1, b2, b3⟩ := cells_4 (kept_block hb3 HX1.out)
             have HB3 : Hid _ := xtrans2 HB1.out hb3
             clear hb3)
          | fail)
        go_ret
        exact ⟨rfl, HB3.out⟩
      cases hb with
      | true =>
        rw [if_pos (.inr (.inr rfl))]
        go_enter Tryz.func38, Tryz.ntmps38
        go_wp2_with (first
          | (go_at_call 30; refine Calls.mono HPA.out ?_; rintro e w1 ⟨a1, c1, rfl, hb1, hx1⟩
             clear b0 b1 b2 b3
             obtain ⟨b0, b1, b2, b3⟩ := cells_4 hx1
             have HB1 : Hid _ := hb1
             have HX1 : Hid _ := hx1
             clear hb1 hx1)
          | (go_at_call 36; refine Calls.mono (HOF.out w1 HB1.out) ?_; rintro e w2 ⟨rfl, rfl⟩)
          | (go_at_call 44; refine (find_any a c l s i w2 (HL.out.below HB1.out) hlen HO.out).mono ?_; rintro e w3 ⟨nn, he, _, hb3⟩
             rw [HHB.out] at he
             subst he
             clear b0 b1 b2 b3
             obtain ⟨b0, b1, b2, b3⟩ := cells_4 (kept_block hb3 HX1.out)
             have HB3 : Hid _ := xtrans2 HB1.out hb3
             clear hb3)
          | fail)
        go_ret
        exact ⟨rfl, HB3.out⟩
      | false =>
        rw [if_neg (by rintro (h | h | h); exact hk1 h; exact hk2 h; cases h)]
        rw [if_pos (.inl rfl)]
        go_enter Tryz.func38, Tryz.ntmps38
        go_wp2_with (first
          | (go_at_call 30; refine Calls.mono HPA.out ?_; rintro e w1 ⟨a1, c1, rfl, hb1, hx1⟩
             clear b0 b1 b2 b3
             obtain ⟨b0, b1, b2, b3⟩ := cells_4 hx1
             have HB1 : Hid _ := hb1
             have HX1 : Hid _ := hx1
             clear hb1 hx1)
          | (go_at_call 36; refine Calls.mono (HOF.out w1 HB1.out) ?_; rintro e w2 ⟨rfl, rfl⟩)
          | (go_at_call 44; refine (find_any a c l s i w2 (HL.out.below HB1.out) hlen HO.out).mono ?_; rintro e w3 ⟨nn, he, _, hb3⟩
             rw [HHB.out] at he
             subst he
             clear b0 b1 b2 b3
             obtain ⟨b0, b1, b2, b3⟩ := cells_4 (kept_block hb3 HX1.out)
             have HB3 : Hid _ := xtrans2 HB1.out hb3
             clear hb3)
          | fail)
        go_ret
        exact ⟨rfl, HB3.out⟩
    · rw [if_pos h0]
      go_enter Tryz.func38, Tryz.ntmps38
      go_wp2_with (first
        | (go_at_call 30; refine Calls.mono HPA.out ?_; rintro e w1 ⟨a1, c1, rfl, hb1, hx1⟩; (have HB1 : Hid _ := hb1); clear hb1 hx1 b0 b1 b2 b3)
        | fail)
      go_ret
      exact ⟨rfl, HB1.out⟩
end Go.Proofs.YtbblckcjedjbcaaGreatDoor
