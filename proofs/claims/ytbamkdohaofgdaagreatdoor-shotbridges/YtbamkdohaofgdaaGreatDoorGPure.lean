import Derived.Test.YtbamkdohaofgdaaGreatDoorLine
import Derived.Test.YtbamkdohaofgdaaGreatDoorCovers
import Derived.Test.YtbamkdohaofgdaaGreatDoorCGood
import Derived.Test.YtbamkdohaofgdaaGreatDoorDPure
namespace Go.Proofs.YtbamkdohaofgdaaGreatDoor
open Go.RowKit
set_option linter.unusedVariables false

theorem sg_pos {x y : Int} (h : sg x y ≤ 0) : x ≤ y := by
  rcases Int.lt_trichotomy x y with g | g | g
  · omega
  · omega
  · rw [sg_gt g] at h; omega

theorem ordL_preT : ∀ (a r : List UInt8), ordL a (a ++ r) ≤ 0
  | [], [] => by decide
  | [], _ :: _ => by show (-1 : Int) ≤ 0; decide
  | x :: a, r => by
    rw [List.cons_append, ordL, if_pos rfl]
    exact ordL_preT a r

theorem mid : ∀ (a b r : List UInt8), ordL a b ≤ 0 → ordL b (a ++ r) ≤ 0 → ∃ t, b = a ++ t ∧ ordL t r ≤ 0
  | [], b, r, _, h => ⟨b, rfl, h⟩
  | x :: a, [], r, h, _ => by
    exfalso
    have : ordL (x :: a) [] = 1 := rfl
    omega
  | x :: a, y :: b, r, h, g => by
    rw [List.cons_append] at g
    rw [ordL] at h g
    by_cases e : x.toNat = y.toNat
    · rw [if_pos e] at h
      rw [if_pos e.symm] at g
      obtain ⟨t, ht, h2⟩ := mid a b r h g
      exact ⟨t, by rw [ht, UInt8.toNat_inj.mp e]; rfl, h2⟩
    · rw [if_neg e] at h
      rw [if_neg (fun h => e h.symm)] at g
      have h1 := sg_pos h
      have h2 := sg_pos g
      exact absurd (rk_inj (by omega)) e

theorem slash_first (t r : List UInt8) (h : ordL t (47 :: r) ≤ 0) : t = [] ∨ ∃ t', t = 47 :: t' := by
  cases t with
  | nil => exact .inl rfl
  | cons y t =>
    right
    rw [ordL] at h
    by_cases e : y.toNat = (47 : UInt8).toNat
    · exact ⟨t, by rw [UInt8.toNat_inj.mp e]⟩
    · rw [if_neg e] at h
      have h1 := sg_pos h
      have h2 : rk 47 = -1 := by decide
      have h3 : (0 : Int) ≤ rk y := by
        unfold rk
        rw [if_neg (show ¬ y.toNat = 47 from e)]
        omega
      omega

theorem text_of {s : ByteArray} {xs : List ByteArray} (h : parse s = (0, xs)) (hne : xs ≠ []) : s.data.toList = flatN xs := by
  rw [← parse_back h, placeB, if_neg hne, data_mk]
theorem text_root {s : ByteArray} (h : parse s = (0, [])) : s.data.toList = [47] := by
  rw [← parse_back h]
  rfl

/-- c is a, or lies below it: its text is a's, and then nothing, or a slash (the root ends with its own). -/
theorem under_text {a c : ByteArray} {al cl : List ByteArray} (ha : parse a = (0, al)) (hc : parse c = (0, cl)) (h : Bel al cl) (hne : al ≠ []) : ∃ r, c.data.toList = a.data.toList ++ 47 :: r := by
  have hcn : cl ≠ [] := by rintro rfl; have := h.1; simp at this
  obtain ⟨r, hr⟩ := (pre_bel al cl (parse_len ha).2 (parse_len hc).2).2 h
  exact ⟨r, by rw [text_of hc hcn, text_of ha hne, ← hr]; simp⟩

theorem covers3 {a c : ByteArray} {al cl : List ByteArray} (ha : parse a = (0, al)) (hc : parse c = (0, cl)) : covers 3 a 1 c = (eqB c a || decide (Bel al cl)) := by
  have h1 : isP a = true := by simp [isP, ha]
  have h2 : isP c = true := by simp [isP, hc]
  have h3 : okC 1 = true := by decide
  have h4 : belB a c = decide (Bel al cl) := by simp [belB, ha, hc]
  simp [covers, h1, h2, h3, h4, cov]

theorem eqB_iff {a b : ByteArray} : eqB a b = true ↔ a = b := by
  unfold eqB
  rw [beq_iff_eq, ByteArray.toList_eq, ByteArray.toList_eq]
  constructor
  · intro h
    rw [← mk_data a, ← mk_data b, h]
  · intro h
    rw [h]

theorem under_le {a c : ByteArray} {al cl : List ByteArray} (ha : parse a = (0, al)) (hc : parse c = (0, cl)) (h : covers 3 a 1 c = true) : O a c ≤ 0 := by
  rw [covers3 ha hc, Bool.or_eq_true] at h
  rw [O_list]
  rcases h with h | h
  · rw [eqB_iff.1 h, ordL_self]
    exact Int.le_refl _
  · have hb : Bel al cl := by simpa using h
    have hcn : cl ≠ [] := by rintro rfl; have := hb.1; simp at this
    by_cases hne : al = []
    · subst hne
      rw [text_root ha, text_of hc hcn]
      rcases flat_head cl with h | ⟨t, h⟩
      · cases cl with
        | nil => exact absurd rfl hcn
        | cons x r => simp [flatN] at h
      · rw [h]
        exact ordL_preT [47] t
    · obtain ⟨r, hr⟩ := under_text ha hc hb hne
      rw [hr]
      exact ordL_preT _ _

theorem between {a b c : ByteArray} {al bl cl : List ByteArray} (ha : parse a = (0, al)) (hb : parse b = (0, bl)) (hc : parse c = (0, cl)) (h : covers 3 a 1 c = true) (h1 : O a b ≤ 0) (h2 : O b c ≤ 0) : covers 3 a 1 b = true := by
  rw [covers3 ha hc, Bool.or_eq_true] at h
  rw [covers3 ha hb, Bool.or_eq_true]
  by_cases hne : al = []
  · subst hne
    by_cases hbn : bl = []
    · subst hbn
      left
      rw [eqB_iff, ← parse_back ha, ← parse_back hb]
    · right
      rw [decide_eq_true_eq]
      exact ⟨by cases bl with | nil => exact absurd rfl hbn | cons x r => simp, rfl⟩
  rw [O_list] at h1 h2
  rcases h with h | h
  · left
    have hca := eqB_iff.1 h
    rw [hca] at h2
    rw [eqB_iff]
    have h3 := ordL_anti a.data.toList b.data.toList
    have h4 : O a b = 0 := by rw [O_list]; omega
    exact (O_zero h4).symm
  · have hbel : Bel al cl := by simpa using h
    obtain ⟨r, hr⟩ := under_text ha hc hbel hne
    rw [hr] at h2
    obtain ⟨t, ht, h3⟩ := mid _ _ _ h1 h2
    rcases slash_first t r h3 with rfl | ⟨t', rfl⟩
    · left
      rw [eqB_iff, ← mk_data a, ← mk_data b, ht, List.append_nil]
    · right
      rw [decide_eq_true_eq]
      have hbn : bl ≠ [] := by
        rintro rfl
        have h5 := text_root hb
        rw [ht] at h5
        have h6 := congrArg List.length h5
        have h7 : 1 ≤ a.data.toList.length := by
          rw [text_of ha hne]
          cases al with
          | nil => exact absurd rfl hne
          | cons x r => simp [flatN]
        simp at h6
        simp at h7
        omega
      rw [← pre_bel al bl (parse_len ha).2 (parse_len hb).2]
      exact ⟨t', by rw [← text_of ha hne, ← text_of hb hbn, ht]; simp⟩

end Go.Proofs.YtbamkdohaofgdaaGreatDoor
namespace Go.Proofs.YtbamkdohaofgdaaGreatDoor
open Go.RowKit Classical
set_option linter.unusedVariables false
set_option linter.unusedSimpArgs false

/-- How many nodes stand ahead of a place. -/
def pos (l : List SeenT) (a : ByteArray) : Nat := (l.takeWhile fun s => decide (O s.p a = -1)).length
theorem pos_eq (a : ByteArray) : ∀ (l : List SeenT) (i : Nat), i ≤ l.length → (∀ (q : Nat) (x : SeenT), q < i → l[q]? = some x → O x.p a = -1) → (∀ (q : Nat) (x : SeenT), i ≤ q → l[q]? = some x → O x.p a ≠ -1) → pos l a = i
  | [], i, hi, _, _ => by simp at hi; subst hi; rfl
  | s :: r, 0, hi, h1, h2 => by
    have := h2 0 s (Nat.le_refl _) rfl
    simp [pos, List.takeWhile_cons, this]
  | s :: r, i + 1, hi, h1, h2 => by
    have h0 := h1 0 s (by omega) rfl
    have ih := pos_eq a r i (by simpa using hi) (fun q x hq hx => h1 (q + 1) x (by omega) (by simpa using hx)) (fun q x hq hx => h2 (q + 1) x (by omega) (by simpa using hx))
    unfold pos at ih ⊢
    simp [List.takeWhile_cons, h0, ih]
def insP (l : List SeenT) (x : SeenT) : List SeenT := l.take (pos l x.p) ++ x :: l.drop (pos l x.p)
def setP (l : List SeenT) (x : SeenT) : List SeenT := l.take (pos l x.p) ++ x :: l.drop (pos l x.p + 1)
def delP (l : List SeenT) (a : ByteArray) : List SeenT := l.take (pos l a) ++ l.drop (pos l a + 1)
def mkB (p : ByteArray) (l : List SeenT) (c : ChT) : Bool := (decide (c.p = p) || hasP l (upP c.p)) && (fitB c.d c.v && decide (l.length < 64))
def goB (l : List SeenT) (a : ByteArray) : Bool := !decide (a = pRoot) && !(l.any fun s => belP a s.p)
def seeB (k : Int) (c : ChT) : SeenT := if k = 2 then ⟨c.p, ⟨#[]⟩, 0⟩ else ⟨c.p, c.d, c.v⟩
theorem seeB_p (k : Int) (c : ChT) : (seeB k c).p = c.p := by unfold seeB; split <;> rfl
/-- One change. -/
def stepF (k : Int) (p : ByteArray) (l : List SeenT) (c : ChT) : Option (List SeenT) :=
  if covers 3 pRoot c.k c.p = false then none
  else if covers k p c.k c.p = false then some l
  else if c.k = 1 then (if (!hasP l c.p && mkB p l c) = true then some (insP l (seeB k c)) else none)
  else if c.k = 2 then (if (hasP l c.p && fitB c.d c.v) = true then some (setP l (seeB k c)) else none)
  else (if (hasP l c.p && goB l c.p) = true then some (delP l c.p) else none)
def foldF (k : Int) (p : ByteArray) (l : List SeenT) : List ChT → Option (List SeenT)
  | [] => some l
  | c :: r => match stepF k p l c with | none => none | some m => foldF k p m r
theorem foldF_snoc (k : Int) (p : ByteArray) : ∀ (cs : List ChT) (l : List SeenT) (c : ChT), foldF k p l (cs ++ [c]) = match foldF k p l cs with | none => none | some m => stepF k p m c
  | [], l, c => by
    simp only [List.nil_append, foldF]
    cases stepF k p l c <;> rfl
  | d :: r, l, c => by
    simp only [List.cons_append, foldF]
    cases stepF k p l d with
    | none => rfl
    | some m => exact foldF_snoc k p r m c
theorem foldF_none {k : Int} {p : ByteArray} {l : List SeenT} {cs : List ChT} {q : Nat} (h : foldF k p l (cs.take q) = none) : foldF k p l cs = none := by
  have : ∀ (us bs : List ChT) (l : List SeenT), foldF k p l us = none → foldF k p l (us ++ bs) = none := by
    intro us
    induction us with
    | nil => intro bs l h; cases h
    | cons a r ih =>
      intro bs l h
      simp only [List.cons_append, foldF] at h ⊢
      cases hs : stepF k p l a with
      | none => rfl
      | some m => rw [hs] at h; exact ih bs m h
  have := this (cs.take q) (cs.drop q) l h
  rwa [List.take_append_drop] at this
/-- What holds of a shot's list all the while. -/
structure InvF (l : List SeenT) : Prop where
  asc : Asc l
  isp : ∀ s ∈ l, isP s.p = true
  len : l.length ≤ 64
theorem asc_pw {l : List SeenT} : Asc l ↔ l.Pairwise (fun x y => O x.p y.p = -1) := by
  rw [List.pairwise_iff_getElem]
  constructor
  · intro h i j hi hj hij
    exact h i j _ _ hij (List.getElem?_eq_getElem hi) (List.getElem?_eq_getElem hj)
  · intro h i j x y hij hx hy
    obtain ⟨hi, rfl⟩ := List.getElem?_eq_some_iff.1 hx
    obtain ⟨hj, rfl⟩ := List.getElem?_eq_some_iff.1 hy
    exact h i j hi hj hij
theorem pos_le (l : List SeenT) (a : ByteArray) : pos l a ≤ l.length := by unfold pos; exact (List.takeWhile_prefix _).length_le
theorem pos_take (l : List SeenT) (a : ByteArray) : ∀ s ∈ l.take (pos l a), O s.p a = -1 := by
  induction l with
  | nil => intro s hs; simp at hs
  | cons t r ih =>
    intro s hs
    by_cases ht : O t.p a = -1
    · have : pos (t :: r) a = pos r a + 1 := by unfold pos; simp [List.takeWhile_cons, ht]
      rw [this, List.take_succ_cons] at hs
      rcases List.mem_cons.1 hs with rfl | hs
      · exact ht
      · exact ih s hs
    · have : pos (t :: r) a = 0 := by unfold pos; simp [List.takeWhile_cons, ht]
      rw [this] at hs
      simp at hs
theorem pos_at {l : List SeenT} {a : ByteArray} {s : SeenT} (h : l[pos l a]? = some s) : O s.p a ≠ -1 := by
  induction l with
  | nil => simp at h
  | cons t r ih =>
    by_cases ht : O t.p a = -1
    · have : pos (t :: r) a = pos r a + 1 := by unfold pos; simp [List.takeWhile_cons, ht]
      rw [this] at h
      exact ih (by simpa using h)
    · have : pos (t :: r) a = 0 := by unfold pos; simp [List.takeWhile_cons, ht]
      rw [this] at h
      simp at h
      subst h
      exact ht
theorem pos_drop {l : List SeenT} (ha : Asc l) (a : ByteArray) : ∀ (q : Nat) (x : SeenT), pos l a ≤ q → l[q]? = some x → O x.p a ≠ -1 := by
  intro q x hq hx h
  have hlt : pos l a < l.length := by have := (List.getElem?_eq_some_iff.1 hx).1; omega
  have h0 := List.getElem?_eq_getElem hlt
  have hne := pos_at h0
  rcases ge_of_asc ha hq h0 hx with e | e
  · rw [e] at hne; exact hne h
  · exact hne (O_trans e h)
theorem pos_of {l : List SeenT} (ha : Asc l) {a : ByteArray} {i : Nat} {s : SeenT} (hs : l[i]? = some s) (he : s.p = a) : pos l a = i := by
  refine pos_eq a l i (by have := (List.getElem?_eq_some_iff.1 hs).1; omega) (fun q x hq hx => ?_) (fun q x hq hx => ?_)
  · rw [← he]; exact ha q i x s hq hx hs
  · intro h
    rcases ge_of_asc ha hq hs hx with e | e
    · rw [← e, he, O_self] at h; omega
    · rw [he, O_anti, h] at e; omega
theorem has_pos {l : List SeenT} (ha : Asc l) {a : ByteArray} (h : hasP l a = true) : ∃ s, l[pos l a]? = some s ∧ s.p = a := by
  obtain ⟨s, hs, he⟩ := hasP_iff.1 h
  obtain ⟨i, hi⟩ := List.getElem?_of_mem hs
  exact ⟨s, by rw [pos_of ha hi he]; exact hi, he⟩
theorem pos_gt {l : List SeenT} (ha : Asc l) {a : ByteArray} (hn : hasP l a = false) : ∀ s ∈ l.drop (pos l a), O a s.p = -1 := by
  intro s hs
  obtain ⟨i, hi⟩ := List.getElem?_of_mem hs
  rw [List.getElem?_drop] at hi
  have h1 := pos_drop ha a _ s (Nat.le_add_right _ _) hi
  rcases O_range s.p a with h | h | h
  · exact absurd h h1
  · have : hasP l a = true := hasP_iff.2 ⟨s, List.mem_of_getElem? hi, O_zero h⟩
    rw [this] at hn; cases hn
  · rw [O_anti, h]
theorem pos_gt' {l : List SeenT} (ha : Asc l) {a : ByteArray} (h : hasP l a = true) : ∀ s ∈ l.drop (pos l a + 1), O a s.p = -1 := by
  intro s hs
  obtain ⟨x, hx, he⟩ := has_pos ha h
  obtain ⟨i, hi⟩ := List.getElem?_of_mem hs
  rw [List.getElem?_drop] at hi
  rw [← he]
  exact ha _ _ x s (by omega) hx hi
theorem inv_ins {l : List SeenT} (h : InvF l) {x : SeenT} (hn : hasP l x.p = false) (hx : isP x.p = true) (hl : l.length < 64) : InvF (insP l x) := by
  refine ⟨?_, ?_, ?_⟩
  · have hp := asc_pw.1 h.asc
    rw [← List.take_append_drop (pos l x.p) l, List.pairwise_append] at hp
    rw [asc_pw]
    unfold insP
    rw [List.pairwise_append, List.pairwise_cons]
    refine ⟨hp.1, ⟨pos_gt h.asc hn, hp.2.1⟩, fun a ha b hb => ?_⟩
    rcases List.mem_cons.1 hb with rfl | hb
    · exact pos_take l _ a ha
    · exact hp.2.2 a ha b hb
  · intro s hs
    unfold insP at hs
    rcases List.mem_append.1 hs with hs | hs
    · exact h.isp s (List.mem_of_mem_take hs)
    · rcases List.mem_cons.1 hs with rfl | hs
      · exact hx
      · exact h.isp s (List.mem_of_mem_drop hs)
  · unfold insP; simp; have := pos_le l x.p; omega
theorem inv_set {l : List SeenT} (h : InvF l) {x : SeenT} (hn : hasP l x.p = true) (hx : isP x.p = true) : InvF (setP l x) := by
  obtain ⟨y, hy, _⟩ := has_pos h.asc hn
  have hlt := (List.getElem?_eq_some_iff.1 hy).1
  refine ⟨?_, ?_, ?_⟩
  · have hp := asc_pw.1 h.asc
    rw [← List.take_append_drop (pos l x.p) l, List.pairwise_append] at hp
    rw [asc_pw]
    unfold setP
    have hd : ∀ b ∈ l.drop (pos l x.p + 1), b ∈ l.drop (pos l x.p) := fun b hb => by
      rw [← List.drop_drop] at hb
      exact List.mem_of_mem_drop hb
    rw [List.pairwise_append, List.pairwise_cons]
    refine ⟨hp.1, ⟨pos_gt' h.asc hn, ?_⟩, fun a ha b hb => ?_⟩
    · have := hp.2.1
      rw [← List.drop_drop]
      exact this.sublist (List.drop_sublist _ _)
    rcases List.mem_cons.1 hb with rfl | hb
    · exact pos_take l _ a ha
    · exact hp.2.2 a ha b (hd b hb)
  · intro s hs
    unfold setP at hs
    rcases List.mem_append.1 hs with hs | hs
    · exact h.isp s (List.mem_of_mem_take hs)
    · rcases List.mem_cons.1 hs with rfl | hs
      · exact hx
      · exact h.isp s (List.mem_of_mem_drop hs)
  · have := h.len
    unfold setP; simp; omega
theorem inv_del {l : List SeenT} (h : InvF l) (a : ByteArray) : InvF (delP l a) := by
  have hsub : (delP l a).Sublist l := by
    unfold delP
    have h1 : (l.take (pos l a) ++ l.drop (pos l a + 1)).Sublist (l.take (pos l a) ++ l.drop (pos l a)) := List.Sublist.append_left (by rw [← List.drop_drop]; exact List.drop_sublist _ _) _
    rwa [List.take_append_drop] at h1
  exact ⟨asc_pw.2 ((asc_pw.1 h.asc).sublist hsub), fun s hs => h.isp s (hsub.subset hs), Nat.le_trans hsub.length_le h.len⟩
theorem cov_isP {k : Int} {p : ByteArray} {c : Int} {x : ByteArray} (h : covers k p c x = true) : isP x = true ∧ 1 ≤ c ∧ c ≤ 3 := by
  unfold covers at h
  simp only [Bool.and_eq_true] at h
  exact ⟨h.1.2, by have := h.1.1.2; simpa [okC] using this⟩
theorem cov_root (c : Int) (x : ByteArray) : covers 3 pRoot c x = (okC c && isP x) := by
  unfold covers
  have h1 : isP pRoot = true := isP_root
  rw [h1]
  cases hc : okC c
  · simp
  cases hx : isP x
  · simp
  simp only [Bool.true_and, Bool.and_self]
  have hp : parse pRoot = (0, []) := by decide
  have : (eqB x pRoot || belB pRoot x) = true := by
    by_cases he : x = pRoot
    · rw [he]; simp [eqB]
    · have hne : (parse x).2 ≠ [] := fun e => he (by
        have h0 : (parse x).1 = 0 := isP_iff.1 hx
        have h2 : parse x = (0, []) := by rw [← h0, ← e]
        have := parse_back h2
        rw [← this]; rfl)
      have : belB pRoot x = true := by
        unfold belB
        rw [hp]
        simp only [decide_eq_true_eq]
        refine ⟨?_, by simp⟩
        cases hq : (parse x).2 with
        | nil => exact absurd hq hne
        | cons y r => simp
      rw [this, Bool.or_true]
  simp [cov, this]
theorem inv_step {k : Int} {p : ByteArray} {l m : List SeenT} {c : ChT} (h : InvF l) (hs : stepF k p l c = some m) : InvF m := by
  unfold stepF at hs
  split at hs
  · cases hs
  · rename_i h0
    split at hs
    · cases hs; exact h
    · rename_i h1
      have hc := cov_isP (by simpa using h1 : covers k p c.k c.p = true)
      split at hs
      · split at hs
        · rename_i h3
          cases hs
          simp only [Bool.and_eq_true, mkB, decide_eq_true_eq, Bool.not_eq_true'] at h3
          exact inv_ins h (by rw [seeB_p]; exact h3.1) (by rw [seeB_p]; exact hc.1) h3.2.2.2
        · cases hs
      · split at hs
        · split at hs
          · rename_i h3
            cases hs
            simp only [Bool.and_eq_true] at h3
            exact inv_set h (by rw [seeB_p]; exact h3.1) (by rw [seeB_p]; exact hc.1)
          · cases hs
        · split at hs
          · cases hs; exact inv_del h _
          · cases hs
/-- What is below a node follows it at once. -/
theorem go_next {l : List SeenT} (h : InvF l) {a : ByteArray} (ha : hasP l a = true) : (l.any fun s => belP a s.p) = true ↔ ∃ y, l[pos l a + 1]? = some y ∧ covers 3 a 3 y.p = true := by
  obtain ⟨x, hx, he⟩ := has_pos h.asc ha
  have hpa : isP a = true := by rw [← he]; exact h.isp x (List.mem_of_getElem? hx)
  obtain ⟨⟨ca, al⟩, hal⟩ : ∃ q, parse a = q := ⟨_, rfl⟩
  have hca : ca = 0 := by have := isP_iff.1 hpa; rw [hal] at this; exact this
  subst hca
  have c3 : ∀ y : ByteArray, isP y = true → covers 3 a 3 y = covers 3 a 1 y := fun y hy => by
    unfold covers
    simp [okC, cov]
  have cb : ∀ y : ByteArray, isP y = true → y ≠ a → (covers 3 a 1 y = true ↔ belP a y = true) := fun y hy hne => by
    obtain ⟨⟨cy, yl⟩, hyl⟩ : ∃ q, parse y = q := ⟨_, rfl⟩
    have hcy : cy = 0 := by have := isP_iff.1 hy; rw [hyl] at this; exact this
    subst hcy
    rw [covers3 hal hyl, Bool.or_eq_true, eqB_iff]
    unfold belP
    rw [hal, hyl]
    constructor
    · rintro (e | e)
      · exact absurd e hne
      · exact e
    · exact .inr
  constructor
  · intro hany
    obtain ⟨s, hs, hb⟩ := List.any_eq_true.1 hany
    have hps := h.isp s hs
    have hsa : s.p ≠ a := fun e => by
      rw [e] at hb
      unfold belP at hb
      simp [Bel] at hb
    obtain ⟨⟨cs, sl⟩, hsl⟩ : ∃ q, parse s.p = q := ⟨_, rfl⟩
    have hcs : cs = 0 := by have := isP_iff.1 hps; rw [hsl] at this; exact this
    subst hcs
    have hcov := (cb s.p hps hsa).2 hb
    have hle := under_le hal hsl hcov
    have hlt : O x.p s.p = -1 := by
      rw [he]
      rcases O_range a s.p with g | g | g
      · exact g
      · exact absurd (O_zero g).symm hsa
      · omega
    obtain ⟨j, hj⟩ := List.getElem?_of_mem hs
    have hij := asc_lt h.asc hx hj hlt
    have hjl := (List.getElem?_eq_some_iff.1 hj).1
    obtain ⟨y, hy⟩ : ∃ y, l[pos l a + 1]? = some y := ⟨_, List.getElem?_eq_getElem (by omega)⟩
    have hpy := h.isp y (List.mem_of_getElem? hy)
    obtain ⟨⟨cy, yl⟩, hyl⟩ : ∃ q, parse y.p = q := ⟨_, rfl⟩
    have hcy : cy = 0 := by have := isP_iff.1 hpy; rw [hyl] at this; exact this
    subst hcy
    have h1 : O a y.p ≤ 0 := by
      have := h.asc _ _ x y (Nat.lt_succ_self _) hx hy
      rw [he] at this
      omega
    have h2 : O y.p s.p ≤ 0 := by
      rcases ge_of_asc h.asc (show pos l a + 1 ≤ j by omega) hy hj with e | e
      · rw [e, O_self]; exact Int.le_refl _
      · omega
    exact ⟨y, hy, by rw [c3 _ hpy]; exact between hal hyl hsl hcov h1 h2⟩
  · rintro ⟨y, hy, hc⟩
    have hpy := h.isp y (List.mem_of_getElem? hy)
    have hne : y.p ≠ a := fun e => by
      have := h.asc _ _ x y (Nat.lt_succ_self _) hx hy
      rw [he, e, O_self] at this
      omega
    rw [c3 _ hpy] at hc
    exact List.any_eq_true.2 ⟨y, List.mem_of_getElem? hy, (cb y.p hpy hne).1 hc⟩
end Go.Proofs.YtbamkdohaofgdaaGreatDoor
