/-
  ShotBridges: what Diff tells makes the second shot of the first, and nothing of it can be left out.
-/
import Derived.Test.YtbamkdohaofgdaaGreatDoorGPure
namespace Go.Proofs.YtbamkdohaofgdaaGreatDoor
open Go.RowKit Classical
set_option linter.unusedVariables false
set_option linter.unusedSimpArgs false

theorem asc_uniq {l : List SeenT} (h : Asc l) {x y : SeenT} (hx : x ∈ l) (hy : y ∈ l) (e : x.p = y.p) : x = y := by
  obtain ⟨i, hi⟩ := List.getElem?_of_mem hx
  obtain ⟨j, hj⟩ := List.getElem?_of_mem hy
  rcases Nat.lt_trichotomy i j with g | g | g
  · exact absurd e (O_ne (h i j x y g hi hj))
  · subst g
    rw [hi] at hj
    exact Option.some.inj hj
  · exact absurd e.symm (O_ne (h j i y x g hj hi))
theorem findP_mem {l : List SeenT} {a : ByteArray} {x : SeenT} (h : findP l a = some x) : x ∈ l ∧ x.p = a := ⟨List.mem_of_find?_eq_some h, by simpa using List.find?_some h⟩
theorem findP_of {l : List SeenT} (h : Asc l) {x : SeenT} (hx : x ∈ l) : findP l x.p = some x := by
  cases hf : findP l x.p with
  | none =>
    have := (List.find?_eq_none.1 hf) x hx
    simp at this
  | some y =>
    obtain ⟨hy, e⟩ := findP_mem hf
    rw [asc_uniq h hy hx e]
theorem findP_has {l : List SeenT} {a : ByteArray} : hasP l a = true ↔ ∃ x, findP l a = some x := by
  constructor
  · intro h
    cases hf : findP l a with
    | none =>
      obtain ⟨s, hs, e⟩ := hasP_iff.1 h
      have := (List.find?_eq_none.1 hf) s hs
      simp [e] at this
    | some x => exact ⟨x, rfl⟩
  · rintro ⟨x, hx⟩
    obtain ⟨h1, h2⟩ := findP_mem hx
    exact hasP_iff.2 ⟨x, h1, h2⟩
theorem findP_hasnt {l : List SeenT} {a : ByteArray} : hasP l a = false ↔ findP l a = none := by
  constructor
  · intro h
    cases hf : findP l a with
    | none => rfl
    | some x => rw [findP_has.2 ⟨x, hf⟩] at h; cases h
  · intro h
    cases hh : hasP l a with
    | false => rfl
    | true =>
      obtain ⟨x, hx⟩ := findP_has.1 hh
      rw [h] at hx
      cases hx
theorem findP_append (l m : List SeenT) (a : ByteArray) : findP (l ++ m) a = (findP l a).or (findP m a) := List.find?_append
theorem findP_cons_eq {x : SeenT} {l : List SeenT} {a : ByteArray} (h : x.p = a) : findP (x :: l) a = some x := by simp [findP, h]
theorem findP_cons_ne {x : SeenT} {l : List SeenT} {a : ByteArray} (h : x.p ≠ a) : findP (x :: l) a = findP l a := by simp [findP, h]
theorem asc_tail {x : SeenT} {l : List SeenT} (h : Asc (x :: l)) : Asc l ∧ ∀ y ∈ l, O x.p y.p = -1 := by
  rw [asc_pw, List.pairwise_cons] at h
  exact ⟨asc_pw.2 h.2, h.1⟩
theorem asc_ext : ∀ {l m : List SeenT}, Asc l → Asc m → (∀ x, x ∈ l ↔ x ∈ m) → l = m
  | [], [], _, _, _ => rfl
  | [], y :: m, _, _, h => absurd ((h y).2 (.head _)) (by simp)
  | x :: l, [], _, _, h => absurd ((h x).1 (.head _)) (by simp)
  | x :: l, y :: m, hl, hm, h => by
    obtain ⟨al, bl⟩ := asc_tail hl
    obtain ⟨am, bm⟩ := asc_tail hm
    have hxy : x = y := by
      rcases List.mem_cons.1 ((h x).1 (.head _)) with e | e
      · exact e
      · rcases List.mem_cons.1 ((h y).2 (.head _)) with g | g
        · exact g.symm
        · have h1 := bm x e
          have h2 := bl y g
          rw [O_anti, h1] at h2
          omega
    subst hxy
    have : l = m := asc_ext al am (fun z => by
      have hz := h z
      constructor
      · intro hzl
        rcases List.mem_cons.1 (hz.1 (.tail _ hzl)) with e | e
        · subst e
          have := bl z hzl
          rw [O_self] at this
          omega
        · exact e
      · intro hzm
        rcases List.mem_cons.1 (hz.2 (.tail _ hzm)) with e | e
        · subst e
          have := bm z hzm
          rw [O_self] at this
          omega
        · exact e)
    rw [this]
theorem find_ext {l m : List SeenT} (hl : Asc l) (hm : Asc m) (h : ∀ a, findP l a = findP m a) : l = m :=
  asc_ext hl hm fun x => by
    constructor
    · intro hx
      have := findP_of hl hx
      rw [h] at this
      exact (findP_mem this).1
    · intro hx
      have := findP_of hm hx
      rw [← h] at this
      exact (findP_mem this).1
/-- What a step leaves at each place. -/
theorem find_none_of {l : List SeenT} {a : ByteArray} (h : ∀ s ∈ l, s.p ≠ a) : findP l a = none := findP_none h
theorem find_split (l : List SeenT) (a b : ByteArray) : findP l b = (findP (l.take (pos l a)) b).or (findP (l.drop (pos l a)) b) := by
  rw [← findP_append, List.take_append_drop]
theorem find_ins {l : List SeenT} {x : SeenT} (hn : hasP l x.p = false) (a : ByteArray) : findP (insP l x) a = if a = x.p then some x else findP l a := by
  unfold insP
  rw [findP_append]
  split
  · rename_i h
    subst h
    rw [find_none_of (l := l.take (pos l x.p)) (fun s hs => O_ne (pos_take l _ s hs)), findP_cons_eq rfl]
    rfl
  · rename_i h
    rw [findP_cons_ne (fun e => h e.symm), ← find_split]
theorem find_at {l : List SeenT} (ha : Asc l) {b : ByteArray} (hn : hasP l b = true) : ∃ y, y.p = b ∧ l.drop (pos l b) = y :: l.drop (pos l b + 1) := by
  obtain ⟨y, hy, he⟩ := has_pos ha hn
  obtain ⟨hlt, hy'⟩ := List.getElem?_eq_some_iff.1 hy
  exact ⟨y, he, by rw [List.drop_eq_getElem_cons hlt, hy']⟩
theorem find_set {l : List SeenT} {x : SeenT} (ha : Asc l) (hn : hasP l x.p = true) (a : ByteArray) : findP (setP l x) a = if a = x.p then some x else findP l a := by
  obtain ⟨y, he, hd⟩ := find_at ha hn
  unfold setP
  rw [findP_append]
  split
  · rename_i h
    subst h
    rw [find_none_of (l := l.take (pos l x.p)) (fun s hs => O_ne (pos_take l _ s hs)), findP_cons_eq rfl]
    rfl
  · rename_i h
    rw [findP_cons_ne (fun e => h e.symm), find_split l x.p a, hd, findP_cons_ne (fun e => h (by rw [← e, he]))]
theorem find_del {l : List SeenT} {b : ByteArray} (ha : Asc l) (hn : hasP l b = true) (a : ByteArray) : findP (delP l b) a = if a = b then none else findP l a := by
  obtain ⟨y, he, hd⟩ := find_at ha hn
  unfold delP
  rw [findP_append]
  split
  · rename_i h
    subst h
    rw [find_none_of (l := l.take (pos l a)) (fun s hs => O_ne (pos_take l _ s hs)), find_none_of (l := l.drop (pos l a + 1)) (fun s hs => fun e => O_ne (pos_gt' ha hn s hs) e.symm)]
    rfl
  · rename_i h
    rw [find_split l b a, hd, findP_cons_ne (fun e => h (by rw [← e, he]))]
theorem find_other {k : Int} {p : ByteArray} {l m : List SeenT} {c : ChT} (h : InvF l) (hs : stepF k p l c = some m) {a : ByteArray} (hne : a ≠ c.p) : findP m a = findP l a := by
  unfold stepF at hs
  split at hs
  · cases hs
  · split at hs
    · cases hs; rfl
    · split at hs
      · split at hs
        · rename_i h3
          cases hs
          simp only [Bool.and_eq_true, Bool.not_eq_true'] at h3
          rw [find_ins (by rw [seeB_p]; exact h3.1), seeB_p, if_neg hne]
        · cases hs
      · split at hs
        · split at hs
          · rename_i h3
            cases hs
            simp only [Bool.and_eq_true] at h3
            rw [find_set h.asc (by rw [seeB_p]; exact h3.1), seeB_p, if_neg hne]
          · cases hs
        · split at hs
          · rename_i h3
            cases hs
            simp only [Bool.and_eq_true] at h3
            rw [find_del h.asc h3.1, if_neg hne]
          · cases hs
theorem fold_other {k : Int} {p : ByteArray} {a : ByteArray} : ∀ (cs : List ChT) {l m : List SeenT}, InvF l → foldF k p l cs = some m → (∀ c ∈ cs, a ≠ c.p) → findP m a = findP l a
  | [], l, m, h, hf, _ => by cases hf; rfl
  | c :: r, l, m, h, hf, hc => by
    simp only [foldF] at hf
    cases hs : stepF k p l c with
    | none => rw [hs] at hf; cases hf
    | some q =>
      rw [hs] at hf
      rw [fold_other r (inv_step h hs) hf (fun d hd => hc d (.tail _ hd)), find_other h hs (hc c (.head _))]
theorem inv_of_good {st : Int} {p : ByteArray} {k : Int} {l : List SeenT} (h : RGood st p k l) : InvF l := ⟨rgood_asc h, fun s hs => by
    obtain ⟨i, hi⟩ := List.getElem?_of_mem hs
    exact (h.2.2.2.2.2 i s hi).1, h.2.2.2.1⟩
theorem may_of {st : Int} {p : ByteArray} {k : Int} {l : List SeenT} (h : RGood st p k l) {x : SeenT} (hx : x ∈ l) : isP x.p = true ∧ inB k p x.p = true ∧ fitB x.d x.v = true ∧ bareB k x = true ∧ (x.p = p ∨ hasP l (upP x.p) = true) := by
  obtain ⟨i, hi⟩ := List.getElem?_of_mem hx
  obtain ⟨h1, h2, h3, _, h5, h6⟩ := h.2.2.2.2.2 i x hi
  exact ⟨h1, h2, h3, h5, h6⟩
theorem parse_of {x : ByteArray} (h : isP x = true) : parse x = (0, (parse x).2) := by
  have := isP_iff.1 h
  rw [← this]
theorem names_inj {x y : ByteArray} (hx : isP x = true) (hy : isP y = true) (h : (parse x).2 = (parse y).2) : x = y := by
  rw [← parse_back (parse_of hx), ← parse_back (parse_of hy), h]
theorem up_names {x : ByteArray} (h : isP x = true) (hn : (parse x).2 ≠ []) : parse (upP x) = (0, (parse x).2.take ((parse x).2.length - 1)) := by
  have hl := parse_len (parse_of h)
  have : upP x = placeB ((parse x).2.take ((parse x).2.length - 1)) := by simp [upP, isP_iff.1 h, hn]
  rw [this]
  exact parse_place (by simp; omega) (all_take hl.2 _)
theorem in_bel {k : Int} {p x : ByteArray} (hk : 1 ≤ k ∧ k ≤ 3) (hp : isP p = true) (hx : isP x = true) (hi : inB k p x = true) : x = p ∨ Bel (parse p).2 (parse x).2 := by
  by_cases hne : x = p
  · exact .inl hne
  · right
    have hn := in_names hk hp hx hi hne
    unfold inB at hi
    rw [decide_eq_false hne, Bool.false_or] at hi
    split at hi
    · have hu : upP x = p := by simpa using hi
      have := up_names hx hn
      rw [hu] at this
      have hl : 0 < (parse x).2.length := List.length_pos_iff.2 hn
      refine ⟨?_, ?_⟩
      · rw [this]
        simp
        omega
      · rw [this]
        simp
    · simp only [Bool.and_eq_true, decide_eq_true_eq, belP] at hi
      exact hi.2
/-- Whoever is there has all that stand above it. -/
theorem anc {st : Int} {p : ByteArray} {k : Int} {l : List SeenT} (h : RGood st p k l) {x : ByteArray} (hx : isP x = true) (hin : inB k p x = true) : ∀ (n : Nat) (s : SeenT), s ∈ l → (parse s.p).2.length ≤ n → Bel (parse x).2 (parse s.p).2 → hasP l x = true
  | 0, s, hs, hn, hb => by
    have := hb.1
    omega
  | n + 1, s, hs, hn, hb => by
    have hk := h.2.2.1
    have hp := h.2.1
    obtain ⟨h1, h2, h3, h4, h5⟩ := may_of h hs
    have hsn : (parse s.p).2 ≠ [] := fun e => by
      have := hb.1
      rw [e] at this
      simp at this
    have hnp : s.p ≠ p := fun e => by
      rw [e] at hb
      rcases in_bel hk hp hx hin with g | g
      · rw [g] at hb
        have := hb.1
        omega
      · have := hb.1
        have := g.1
        omega
    have hu : hasP l (upP s.p) = true := by
      rcases h5 with e | e
      · exact absurd e hnp
      · exact e
    have hun := up_names h1 hsn
    obtain ⟨t, ht, hte⟩ := hasP_iff.1 hu
    by_cases heq : (parse x).2.length = (parse s.p).2.length - 1
    · have : x = upP s.p := by
        refine names_inj hx (by rw [isP_iff, hun]) ?_
        rw [hun]
        show _ = (parse s.p).2.take ((parse s.p).2.length - 1)
        rw [← heq]
        exact hb.2.symm
      rw [this]
      exact hu
    · refine anc h hx hin n t ht ?_ ?_
      · rw [hte, hun]
        simp
        omega
      · rw [hte, hun]
        have := hb.1
        refine ⟨by simp; omega, ?_⟩
        show ((parse s.p).2.take ((parse s.p).2.length - 1)).take (parse x).2.length = _
        rw [List.take_take, Nat.min_eq_left (by omega)]
        exact hb.2
theorem has_root {st : Int} {p : ByteArray} {k : Int} {l : List SeenT} (h : RGood st p k l) (hne : l ≠ []) : hasP l p = true := by
  obtain ⟨s, hs⟩ := List.exists_mem_of_ne_nil l hne
  obtain ⟨h1, h2, _, _, _⟩ := may_of h hs
  rcases in_bel h.2.2.1 h.2.1 h1 h2 with e | e
  · exact hasP_iff.2 ⟨s, hs, e⟩
  · exact anc h h.2.1 (by simp [inB]) _ s hs (Nat.le_refl _) e
theorem cov_any {k : Int} {p x : ByteArray} {c : Int} (hc : 1 ≤ c ∧ c ≤ 3) (hkc : k = 2 → c ≠ 2) (h : covers k p 1 x = true) : covers k p c x = true := by
  have ok1 : okC 1 = true := by decide
  have okc : okC c = true := by simp [okC, hc]
  unfold covers at h ⊢
  rw [ok1] at h
  rw [okc]
  have : ∀ e ch be, cov k c e ch be = cov k 1 e ch be := by
    intro e ch be
    unfold cov
    by_cases k2 : k = 2
    · subst k2
      simp [hkc rfl]
    · simp [k2]
  rw [this]
  exact h
theorem bare_see {k : Int} {x : SeenT} (h : bareB k x = true) (kk : Int) (hk : kk ≠ 3) : seeB k (chC kk x) = x := by
  obtain ⟨p, d, v⟩ := x
  unfold chC
  rw [if_neg hk]
  unfold seeB
  split
  · rename_i h2
    subst h2
    simp [bareB] at h
    rw [h.1, h.2]
  · rfl
theorem len_sub {α : Type} : ∀ (A B : List α), A.Nodup → (∀ x ∈ A, x ∈ B) → A.length ≤ B.length
  | [], B, _, _ => Nat.zero_le _
  | a :: A, B, nd, h => by
    rw [List.nodup_cons] at nd
    have ha := h a (.head _)
    have := len_sub A (B.erase a) nd.2 (fun x hx => (List.mem_erase_of_ne (fun e => nd.1 (by rw [← e]; exact hx))).2 (h x (.tail _ hx)))
    rw [List.length_erase_of_mem ha] at this
    have := List.length_pos_of_mem ha
    simp
    omega
theorem asc_nodup {l : List SeenT} (h : Asc l) : (l.map SeenT.p).Nodup := by
  rw [List.Nodup, List.pairwise_map]
  exact (asc_pw.1 h).imp fun e => O_ne e
theorem hasP_drop {l : List SeenT} (ha : Asc l) {m : Nat} {n : SeenT} (hn : l[m]? = some n) : hasP (l.drop (m + 1)) n.p = false ∧ (∀ a, hasP (l.drop m) a = (decide (n.p = a) || hasP (l.drop (m + 1)) a)) := by
  constructor
  · cases hh : hasP (l.drop (m + 1)) n.p with
    | false => rfl
    | true =>
      obtain ⟨s, hs, e⟩ := hasP_iff.1 hh
      obtain ⟨i, hi⟩ := List.getElem?_of_mem hs
      rw [List.getElem?_drop] at hi
      exact absurd e.symm (O_ne (ha m _ n s (by omega) hn hi))
  · intro a
    obtain ⟨hlt, hy⟩ := List.getElem?_eq_some_iff.1 hn
    rw [List.drop_eq_getElem_cons hlt, hy]
    simp [hasP]
theorem hasP_take {l : List SeenT} (ha : Asc l) {m : Nat} {n : SeenT} (hn : l[m]? = some n) : hasP (l.take m) n.p = false ∧ (∀ a, hasP (l.take (m + 1)) a = (hasP (l.take m) a || decide (n.p = a))) := by
  constructor
  · cases hh : hasP (l.take m) n.p with
    | false => rfl
    | true =>
      obtain ⟨s, hs, e⟩ := hasP_iff.1 hh
      obtain ⟨i, hi⟩ := List.getElem?_of_mem hs
      rw [List.getElem?_take] at hi
      split at hi
      · rename_i hlt
        exact absurd e (O_ne (ha i m s n hlt hi hn))
      · cases hi
  · intro a
    rw [take_snoc hn]
    simp [hasP, List.any_append]
/-- What is gone goes, from the last to the first. -/
theorem drops {st st' : Int} {p : ByteArray} {k : Int} {la lb : List SeenT} (ga : RGood st p k la) (gb : RGood st' p k lb) : ∀ d q, q + d = la.length → ∃ l, foldF k p la (goneL (la.drop q) lb).reverse = some l ∧ InvF l ∧ ∀ a, findP l a = if (hasP lb a || hasP (la.take q) a) = true then findP la a else none
  | 0, q, hq => by
    have hq : q = la.length := by omega
    subst hq
    refine ⟨la, by simp [goneL, foldF], inv_of_good ga, fun a => ?_⟩
    rw [List.take_length]
    split
    · rfl
    · rename_i h
      simp only [Bool.or_eq_true, not_or] at h
      exact findP_hasnt.1 (by simpa using h.2)
  | d + 1, q, hq => by
    obtain ⟨l, hf, hi, hfind⟩ := drops ga gb d (q + 1) (by omega)
    have hA := rgood_asc ga
    obtain ⟨x, hx⟩ : ∃ x, la[q]? = some x := ⟨_, List.getElem?_eq_getElem (by omega)⟩
    have hxm : x ∈ la := List.mem_of_getElem? hx
    obtain ⟨ht1, ht2⟩ := hasP_take hA hx
    have hg : goneL (la.drop q) lb = gone1 lb x ++ goneL (la.drop (q + 1)) lb := by
      obtain ⟨hlt, hy⟩ := List.getElem?_eq_some_iff.1 hx
      rw [List.drop_eq_getElem_cons hlt, hy]
      simp [goneL]
    obtain ⟨m1, m2, m3, m4, m5⟩ := may_of ga hxm
    cases hh : hasP lb x.p with
    | true =>
      refine ⟨l, ?_, hi, fun a => ?_⟩
      · rw [hg]
        unfold gone1
        rw [if_pos hh]
        exact hf
      · rw [hfind a, ht2 a]
        by_cases e : x.p = a
        · subst e
          simp [hh]
        · simp [e]
    | false =>
      have hfx : findP la x.p = some x := findP_of hA hxm
      have hl : hasP l x.p = true := findP_has.2 ⟨x, by rw [hfind, ht2]; simp [hfx]⟩
      have hroot : x.p ≠ pRoot := fun e => by
        have hpr : p = pRoot := by
          rcases in_bel ga.2.2.1 ga.2.1 m1 m2 with g | g
          · rw [← g, e]
          · have hpn : (parse x.p).2 = [] := by rw [e]; decide
            have := g.1
            rw [hpn] at this
            simp at this
        have hne : lb ≠ [] := fun e0 => gb.2.2.2.2.1 ⟨hpr, e0⟩
        have := has_root gb hne
        rw [hpr, ← e, hh] at this
        cases this
      have hno : (l.any fun s => belP x.p s.p) = false := by
        cases hany : (l.any fun s => belP x.p s.p) with
        | false => rfl
        | true =>
          obtain ⟨s, hs, hb⟩ := List.any_eq_true.1 hany
          have hB : Bel (parse x.p).2 (parse s.p).2 := by simpa [belP] using hb
          have hfs := findP_of hi.asc hs
          rw [hfind] at hfs
          split at hfs
          · rename_i hor
            rw [Bool.or_eq_true] at hor
            rcases hor with hor | hor
            · obtain ⟨t, ht, hte⟩ := hasP_iff.1 hor
              have := anc gb m1 m2 _ t ht (Nat.le_refl _) (by rw [hte]; exact hB)
              rw [hh] at this
              cases this
            · have hsp := hi.isp s hs
              obtain ⟨t, ht, hte⟩ := hasP_iff.1 hor
              obtain ⟨i, hti⟩ := List.getElem?_of_mem ht
              rw [List.getElem?_take] at hti
              split at hti
              · rename_i hlt
                have hge := ge_of_asc hA (show i ≤ q by omega) hti hx
                have hle := under_le (parse_of m1) (parse_of hsp) (by rw [covers3 (parse_of m1) (parse_of hsp)]; simp [hB])
                have hne : x.p ≠ s.p := fun e => by
                  rw [e] at hB
                  have := hB.1
                  omega
                rcases hge with e | e
                · rw [e] at hte
                  exact absurd hte hne
                · rw [hte] at e
                  rw [O_anti, e] at hle
                  omega
              · cases hti
          · cases hfs
      have hgo : goB l x.p = true := by simp [goB, hroot, hno]
      have hc3 : covers k p 3 x.p = true := cov_any (by omega) (fun _ => by decide) ((cov_in ga.2.1 ga.2.2.1).2 ⟨m1, m2⟩)
      have hcr : covers 3 pRoot 3 x.p = true := by
        rw [cov_root, m1]
        decide
      have hstep : stepF k p l (chC 3 x) = some (delP l x.p) := by
        have hcc : chC 3 x = ⟨3, x.p, ⟨#[]⟩, 0⟩ := by simp [chC]
        rw [hcc]
        simp [stepF, hcr, hc3, hl, hgo]
      refine ⟨delP l x.p, ?_, inv_del hi _, fun a => ?_⟩
      · rw [hg]
        unfold gone1
        rw [hh]
        simp only [Bool.false_eq_true, if_false]
        rw [List.reverse_append]
        show foldF k p la ((goneL (la.drop (q + 1)) lb).reverse ++ [chC 3 x]) = _
        rw [foldF_snoc, hf]
        exact hstep
      · rw [find_del hi.asc hl, hfind a, ht2 a]
        by_cases e : a = x.p
        · subst e
          simp [hh, ht1]
        · rw [if_neg e]
          have e' : ¬ x.p = a := fun g => e g.symm
          simp [e']
/-- What has come or turned is laid, from the first to the last. -/
theorem turns {st st' : Int} {p : ByteArray} {k : Int} {la lb : List SeenT} (ga : RGood st p k la) (gb : RGood st' p k lb) : ∀ m, m ≤ lb.length → ∃ l, foldF k p la ((goneL la lb).reverse ++ turnL la (lb.take m)) = some l ∧ InvF l ∧ ∀ a, findP l a = if hasP (lb.drop m) a = true then findP la a else findP lb a
  | 0, _ => by
    obtain ⟨l, hf, hi, hfind⟩ := drops ga gb la.length 0 (by omega)
    refine ⟨l, by simpa [turnL] using hf, hi, fun a => ?_⟩
    rw [hfind a]
    by_cases hb : hasP lb a = true
    · simp [hb]
    · have hb' : hasP lb a = false := by simpa using hb
      have hn := findP_hasnt.1 hb'
      simp [hb', hn, hasP]
  | m + 1, hm => by
    obtain ⟨l, hf, hi, hfind⟩ := turns ga gb m (by omega)
    have hA := rgood_asc ga
    have hB := rgood_asc gb
    obtain ⟨n, hn⟩ : ∃ n, lb[m]? = some n := ⟨_, List.getElem?_eq_getElem (by omega)⟩
    have hnm : n ∈ lb := List.mem_of_getElem? hn
    obtain ⟨hd1, hd2⟩ := hasP_drop hB hn
    obtain ⟨m1, m2, m3, m4, m5⟩ := may_of gb hnm
    have hfb : findP lb n.p = some n := findP_of hB hnm
    have hln : findP l n.p = findP la n.p := by rw [hfind, hd2]; simp
    rw [turnL_snoc hn, ← List.append_assoc]
    have hcr : ∀ c : Int, 1 ≤ c ∧ c ≤ 3 → covers 3 pRoot c n.p = true := fun c hc => by
      rw [cov_root, m1]
      simp [okC, hc]
    have hcov := (cov_in gb.2.1 gb.2.2.1).2 ⟨m1, m2⟩
    cases hx : findP la n.p with
    | none =>
      have hno : hasP l n.p = false := findP_hasnt.2 (by rw [hln, hx])
      have hsub : ∀ s ∈ l, hasP lb s.p = true := fun s hs => by
        have := findP_of hi.asc hs
        rw [hfind] at this
        split at this
        · rename_i hh
          obtain ⟨t, ht, e⟩ := hasP_iff.1 hh
          exact hasP_iff.2 ⟨t, List.mem_of_mem_drop ht, e⟩
        · exact findP_has.2 ⟨_, this⟩
      have hlen : l.length < 64 := by
        have := len_sub (n.p :: l.map SeenT.p) (lb.map SeenT.p) (by
          rw [List.nodup_cons]
          refine ⟨fun h => ?_, asc_nodup hi.asc⟩
          obtain ⟨s, hs, e⟩ := List.mem_map.1 h
          rw [hasP_iff.2 ⟨s, hs, e⟩] at hno
          cases hno) (by
          intro x hx
          rcases List.mem_cons.1 hx with rfl | hx
          · exact List.mem_map.2 ⟨n, hnm, rfl⟩
          · obtain ⟨s, hs, rfl⟩ := List.mem_map.1 hx
            obtain ⟨t, ht, e⟩ := hasP_iff.1 (hsub s hs)
            exact List.mem_map.2 ⟨t, ht, e⟩)
        simp at this
        have := gb.2.2.2.1
        omega
      have hpar : n.p = p ∨ hasP l (upP n.p) = true := by
        by_cases hnp : n.p = p
        · exact .inl hnp
        · right
          have hup : hasP lb (upP n.p) = true := by
            rcases m5 with e | e
            · exact absurd e hnp
            · exact e
          have hlt := up_pre (isP_iff.1 m1) (in_names gb.2.2.1 gb.2.1 m1 m2 hnp)
          refine findP_has.2 ?_
          rw [hfind, if_neg]
          · exact findP_has.1 hup
          · intro hh
            obtain ⟨t, ht, e⟩ := hasP_iff.1 hh
            obtain ⟨i, hti⟩ := List.getElem?_of_mem ht
            rw [List.getElem?_drop] at hti
            have := asc_lt hB hti hn (by rw [e]; exact hlt)
            omega
      have hmk : mkB p l (chC 1 n) = true := by
        have hcc : chC 1 n = ⟨1, n.p, n.d, n.v⟩ := by simp [chC]
        rw [hcc]
        simp only [mkB, Bool.and_eq_true, Bool.or_eq_true, decide_eq_true_eq]
        exact ⟨hpar, m3, hlen⟩
      have hstep : stepF k p l (chC 1 n) = some (insP l n) := by
        have hs := bare_see m4 1 (by decide)
        have hk1 : (chC 1 n).k = 1 := by simp [chC]
        have hp1 : (chC 1 n).p = n.p := by simp [chC]
        unfold stepF
        rw [hs, hk1, hp1, hcr 1 (by omega), hcov, hno, hmk]
        rfl
      refine ⟨insP l n, ?_, inv_ins hi hno m1 hlen, fun a => ?_⟩
      · have ht1 : turn1 la n = [chC 1 n] := by simp [turn1, hx]
        rw [ht1, foldF_snoc, hf]
        exact hstep
      · rw [find_ins hno, hfind a, hd2 a]
        by_cases e : a = n.p
        · subst e
          simp [hd1, hfb]
        · have e' : ¬ n.p = a := fun g => e g.symm
          simp [e, e']
    | some x =>
      have hyes : hasP l n.p = true := findP_has.2 ⟨x, by rw [hln, hx]⟩
      cases hne : neB x n with
      | false =>
        have hxn : x = n := neB_not.1 hne
        subst hxn
        refine ⟨l, ?_, hi, fun a => ?_⟩
        · have ht1 : turn1 la x = [] := by simp [turn1, hx, hne]
          rw [ht1, List.append_nil]
          exact hf
        · rw [hfind a, hd2 a]
          by_cases e : x.p = a
          · subst e
            simp [hd1, hfb, hx]
          · simp [e]
      | true =>
        have hxm := findP_mem hx
        have hk2 : k ≠ 2 := fun e => by
          subst e
          have b1 := (may_of ga hxm.1).2.2.2.1
          simp [bareB] at b1 m4
          exact (neB_iff.1 hne) (by
            obtain ⟨xp, xd, xv⟩ := x
            obtain ⟨np, nd, nv⟩ := n
            simp only at hxm b1 m4
            rw [hxm.2, b1.1, b1.2, m4.1, m4.2])
        have hstep : stepF k p l (chC 2 n) = some (setP l n) := by
          have hs := bare_see m4 2 (by decide)
          have hcc : chC 2 n = ⟨2, n.p, n.d, n.v⟩ := by simp [chC]
          have hk1 : (chC 2 n).k = 2 := by simp [chC]
          have hp1 : (chC 2 n).p = n.p := by simp [chC]
          have hfit : fitB (chC 2 n).d (chC 2 n).v = true := by rw [hcc]; exact m3
          unfold stepF
          rw [hs, hk1, hp1, hcr 2 (by omega), cov_any (c := 2) (by omega) (fun e => absurd e hk2) hcov, hyes, hfit]
          rfl
        refine ⟨setP l n, ?_, inv_set hi hyes m1, fun a => ?_⟩
        · have ht1 : turn1 la n = [chC 2 n] := by simp [turn1, hx, hne]
          rw [ht1, foldF_snoc, hf]
          exact hstep
        · rw [find_set hi.asc hyes, hfind a, hd2 a]
          by_cases e : a = n.p
          · subst e
            simp [hd1, hfb]
          · have e' : ¬ n.p = a := fun g => e g.symm
            simp [e, e']
def diffD (la lb : List SeenT) : List ChT := (goneL la lb).reverse ++ turnL la lb
theorem diff_fold {st st' : Int} {p : ByteArray} {k : Int} {la lb : List SeenT} (ga : Good st p k la) (gb : Good st' p k lb) : foldF k p la (diffD la lb) = some lb := by
  have ga := (good_iff _ _ _ _).1 ga
  have gb := (good_iff _ _ _ _).1 gb
  obtain ⟨l, hf, hi, hfind⟩ := turns ga gb lb.length (Nat.le_refl _)
  rw [List.take_length] at hf
  unfold diffD
  rw [hf, find_ext hi.asc (rgood_asc gb) (fun a => by
    rw [hfind a, List.drop_length]
    rfl)]
theorem gone1_mem {lb : List SeenT} {x : SeenT} {c : ChT} (h : c ∈ gone1 lb x) : c.p = x.p ∧ hasP lb x.p = false := by
  unfold gone1 at h
  split at h
  · cases h
  · rename_i hh
    simp only [List.mem_cons, List.not_mem_nil, or_false] at h
    subst h
    exact ⟨by simp [chC], by simpa using hh⟩
theorem turn1_mem {la : List SeenT} {n : SeenT} {c : ChT} (h : c ∈ turn1 la n) : c.p = n.p ∧ findP la n.p ≠ some n := by
  unfold turn1 at h
  cases hx : findP la n.p with
  | none =>
    rw [hx] at h
    simp only [List.mem_cons, List.not_mem_nil, or_false] at h
    subst h
    exact ⟨by simp [chC], by simp⟩
  | some x =>
    rw [hx] at h
    simp only at h
    split at h
    · rename_i hne
      simp only [List.mem_cons, List.not_mem_nil, or_false] at h
      subst h
      exact ⟨by simp [chC], fun e => (neB_iff.1 hne) (Option.some.inj e)⟩
    · cases h
theorem flat_pw {f : SeenT → List ChT} {l : List SeenT} (h : Asc l) (h1 : ∀ x c, c ∈ f x → c.p = x.p) (h2 : ∀ x, (f x).length ≤ 1) : ((l.map f).flatten).Pairwise fun c d => c.p ≠ d.p := by
  rw [List.pairwise_flatten]
  refine ⟨fun m hm => ?_, ?_⟩
  · obtain ⟨x, _, rfl⟩ := List.mem_map.1 hm
    have := h2 x
    cases hf : f x with
    | nil => exact .nil
    | cons c r =>
      rw [hf] at this
      have : r = [] := by simpa using this
      subst this
      exact List.pairwise_singleton _ _
  · rw [List.pairwise_map]
    refine (asc_pw.1 h).imp ?_
    intro x y hxy c hc d hd
    rw [h1 x c hc, h1 y d hd]
    exact O_ne hxy
theorem diff_pw {la lb : List SeenT} (ha : Asc la) (hb : Asc lb) : (diffD la lb).Pairwise fun c d => c.p ≠ d.p := by
  unfold diffD
  rw [List.pairwise_append]
  refine ⟨?_, ?_, ?_⟩
  · rw [List.pairwise_reverse]
    refine (flat_pw ha (f := gone1 lb) (fun x c hc => (gone1_mem hc).1) (fun x => ?_)).imp fun e => Ne.symm e
    unfold gone1
    split <;> simp
  · refine flat_pw hb (f := turn1 la) (fun x c hc => (turn1_mem hc).1) (fun x => ?_)
    unfold turn1
    split
    · simp
    · split <;> simp
  · intro c hc d hd
    rw [List.mem_reverse] at hc
    obtain ⟨m, hm, hcm⟩ := List.mem_flatten.1 hc
    obtain ⟨x, hx, rfl⟩ := List.mem_map.1 hm
    obtain ⟨m', hm', hdm⟩ := List.mem_flatten.1 hd
    obtain ⟨n, hn, rfl⟩ := List.mem_map.1 hm'
    obtain ⟨e1, e2⟩ := gone1_mem hcm
    obtain ⟨e3, _⟩ := turn1_mem hdm
    rw [e1, e3]
    intro e
    rw [e, hasP_iff.2 ⟨n, hn, rfl⟩] at e2
    cases e2
theorem diff_apart {la lb : List SeenT} (ha : Asc la) (hb : Asc lb) {c : ChT} (hc : c ∈ diffD la lb) : findP la c.p ≠ findP lb c.p := by
  unfold diffD at hc
  rcases List.mem_append.1 hc with hc | hc
  · rw [List.mem_reverse] at hc
    obtain ⟨m, hm, hcm⟩ := List.mem_flatten.1 hc
    obtain ⟨x, hx, rfl⟩ := List.mem_map.1 hm
    obtain ⟨e1, e2⟩ := gone1_mem hcm
    rw [e1, findP_of ha hx, findP_hasnt.1 e2]
    simp
  · obtain ⟨m, hm, hcm⟩ := List.mem_flatten.1 hc
    obtain ⟨n, hn, rfl⟩ := List.mem_map.1 hm
    obtain ⟨e1, e2⟩ := turn1_mem hcm
    rw [e1, findP_of hb hn]
    exact e2
theorem good_asc {st : Int} {p : ByteArray} {k : Int} {l : List SeenT} (h : Good st p k l) : Asc l := rgood_asc ((good_iff _ _ _ _).1 h)
theorem diff_none {st st' : Int} {p : ByteArray} {k : Int} {la lb : List SeenT} (ga : Good st p k la) (gb : Good st' p k lb) : la = lb ↔ diffD la lb = [] := by
  constructor
  · intro e
    cases hd : diffD la lb with
    | nil => rfl
    | cons c r =>
      have := diff_apart (good_asc ga) (good_asc gb) (c := c) (by rw [hd]; simp)
      rw [e] at this
      exact absurd rfl this
  · intro e
    have := diff_fold ga gb
    rw [e] at this
    exact Option.some.inj this
/-- A change is left out: something else comes of it, or nothing. -/
theorem diff_left {st st' : Int} {p : ByteArray} {k : Int} {la lb m : List SeenT} (ga : Good st p k la) (gb : Good st' p k lb) {j : Nat} (hj : j < (diffD la lb).length) (h : foldF k p la ((diffD la lb).take j ++ (diffD la lb).drop (j + 1)) = some m) : m ≠ lb := by
  intro e
  subst e
  have hA := good_asc ga
  have hB := good_asc gb
  have hc : (diffD la m)[j] ∈ diffD la m := List.getElem_mem hj
  have hpw := List.pairwise_iff_getElem.1 (diff_pw hA hB)
  refine diff_apart hA hB hc ?_
  refine (fold_other _ (inv_of_good ((good_iff _ _ _ _).1 ga)) h ?_).symm
  intro d hd
  rcases List.mem_append.1 hd with hd | hd
  · obtain ⟨i, hi⟩ := List.getElem?_of_mem hd
    rw [List.getElem?_take] at hi
    split at hi
    · obtain ⟨hl, he⟩ := List.getElem?_eq_some_iff.1 hi
      rw [← he]
      exact Ne.symm (hpw i j hl hj (by omega))
    · cases hi
  · obtain ⟨i, hi⟩ := List.getElem?_of_mem hd
    rw [List.getElem?_drop] at hi
    obtain ⟨hl, he⟩ := List.getElem?_eq_some_iff.1 hi
    rw [← he]
    exact hpw j _ hj hl (by omega)
end Go.Proofs.YtbamkdohaofgdaaGreatDoor
