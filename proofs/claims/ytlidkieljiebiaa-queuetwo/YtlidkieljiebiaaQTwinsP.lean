/-
  heraldlaw10: the desk while parts are laid there.
-/
import Derived.Test.YtlidkieljiebiaaQTwinP
namespace Go.Proofs.Ytlidkieljiebiaa
open Go.RowKit
set_option linter.unusedVariables false
set_option linter.unusedSimpArgs false

abbrev roomS : SeT := ⟨⟨#[114, 111, 111, 109]⟩, ⟨#[]⟩, 0⟩
/-- The tags of a change, as they lie at the desk: the row, and what is handed in of it. -/
structure NsAt (w : World) (t : PaT) (r u : Value) : Prop where
  eq : ∃ k c, r = .slice (some ⟨k, 0, none⟩) (t.nodes.length + 1) c ∧ u = .slice (some ⟨k, 0, none⟩) t.nodes.length c
  row : w.ownsRow 0 119 3 r (t.nodes.length + 1) (t.nodes.flatMap seCs ++ seCs roomS)
structure PasTight (l : List PaT) : Prop where
  len : (l.length + 1) * 64 ≤ 140737488355328
  each : ∀ t ∈ l, (t.nodes.length + 1) * 40 ≤ 140737488355328
/-- The desk while changes are laid there. -/
structure PwI (w0 : World) (K : Nat → Prop) (l : List PaT) (w : World) (D q : Nat) (tv pv nv : Value) (M : List Value) (mv sv : Value) (L us : List Value) : Prop where
  box : w.heap[D]? = some (.cells #[pv, tv, nv, sv] 72 (0, 0))
  pv : ∃ n xs, w.ownsRow 0 88 5 pv n xs
  ns : Rws w 3 1 29 nv M
  ts : Rws w 119 3 92 sv L
  tvl : ∀ k, tv.ownBlock = some k → k < w0.heap.size
  m : w.ownsRow 0 96 5 mv q (((l.take q).zip us).flatMap fun x => paCs x.1 x.2)
  len : us.length = q
  le : q ≤ L.length
  each : ∀ (i : Nat) (t : PaT) (r u : Value), i < q → l[i]? = some t → L[i]? = some r → us[i]? = some u → NsAt w t r u
  chg : Chg w0 w K
  km : ∀ j, mv.ownBlock = some j → K j ∨ w0.heap.size ≤ j
  ks : ∀ j, sv.ownBlock = some j → K j ∨ w0.heap.size ≤ j
  kl : ∀ t ∈ L, ∀ j, t.ownBlock = some j → K j ∨ w0.heap.size ≤ j
theorem make8S (w : World) : (Instr.makeSlice 92 (.int .i64 0) (.int .i64 8)).run Try.prog w = .ok (.slice (some ⟨w.heap.size, 0, none⟩) 0 8) (w.alloc (.cells #[.string ⟨#[]⟩, .string ⟨#[]⟩, .int .i64 0, .string ⟨#[]⟩, .string ⟨#[]⟩, .int .i64 0, .string ⟨#[]⟩, .string ⟨#[]⟩, .int .i64 0, .string ⟨#[]⟩, .string ⟨#[]⟩, .int .i64 0, .string ⟨#[]⟩, .string ⟨#[]⟩, .int .i64 0, .string ⟨#[]⟩, .string ⟨#[]⟩, .int .i64 0, .string ⟨#[]⟩, .string ⟨#[]⟩, .int .i64 0, .string ⟨#[]⟩, .string ⟨#[]⟩, .int .i64 0] 119)) := by
  kernel_rfl
theorem Try.info_sns : (Try.prog.info? 92).map (fun i => (i.zero, i.size, i.bytes)) = some (some (.slice none 0 0), 1, 24) := by kernel_rfl
theorem PwI.at {w0 : World} {K : Nat → Prop} {l : List PaT} {w w' : World} {D q : Nat} {tv pv nv : Value} {M : List Value} {mv sv : Value} {L us : List Value} (h : PwI w0 K l w D q tv pv nv M mv sv L us) (hb : Below w.heap.size w w') : PwI w0 K l w' D q tv pv nv M mv sv L us :=
  ⟨kept_block hb h.box, by obtain ⟨n, xs, hp⟩ := h.pv; exact ⟨n, xs, owns_below hp hb⟩, h.ns.below hb, h.ts.below hb, h.tvl, owns_below h.m hb, h.len, h.le, fun i t r u hi ht hr hu => ⟨(h.each i t r u hi ht hr hu).eq, owns_below (h.each i t r u hi ht hr hu).row hb⟩, h.chg.trans (Chg.of_below hb _), h.km, h.ks, h.kl⟩
/-- A row more. -/
theorem PwI.grow {w0 : World} {K : Nat → Prop} {l : List PaT} {w w1 w5 : World} {D q a : Nat} {tv pv nv : Value} {M : List Value} {mv sv v5 : Value} {L us : List Value} (h : PwI w0 K l w D q tv pv nv M mv sv L us) (hal : Below w.heap.size w w1) (hnew : w1.ownsRow 0 119 3 (.slice (some ⟨a, 0, none⟩) 0 8) 0 []) (ha : w.heap.size ≤ a)
    (hr : w5.ownsRow 0 92 1 v5 (L.length + 1) (L ++ [.slice (some ⟨a, 0, none⟩) 0 8])) (hg : w1.grownBy w5 sv.ownBlock) (ho : v5.ownBlock = sv.ownBlock ∨ v5.ownBlock = some w1.heap.size) (hKD : K D) : PwI w0 K l (w5.setCell ⟨D, 3, none⟩ v5) D q tv pv nv M mv v5 (L ++ [.slice (some ⟨a, 0, none⟩) 0 8]) us := by
  have h1 := h.at hal
  have hc5 := Chg.grown hg
  have k5 : Kind w1 (fun k => sv.ownBlock = some k) 92 := Kind.own h1.ts.row
  have hbox5 := blk_other h1.box hc5 k5 (by decide)
  have hcz : Chg w5 (w5.setCell ⟨D, 3, none⟩ v5) (fun k => k = D) := Chg.set w5 ⟨D, 3, none⟩ _
  have kz : Kind w5 (fun k => k = D) 72 := Kind.one hbox5
  have R : ∀ {base e sz n : Nat} {v : Value} {xs : List Value}, w1.ownsRow base e sz v n xs → e ≠ 92 → e ≠ 72 → (w5.setCell ⟨D, 3, none⟩ v5).ownsRow base e sz v n xs := fun hh h1 h2 => row_other (row_other hh hc5 k5 h1) hcz kz h2
  refine ⟨same_blk hbox5 rfl, ?_, (h1.ns.other hc5 k5 (by decide) (by decide)).other hcz kz (by decide) (by decide), ⟨?_, ?_, ?_⟩, h.tvl, R h1.m (by decide) (by decide), h.len, by rw [List.length_append]; exact Nat.le_succ_of_le h.le, fun i t r u hi ht hr' hu => ?_, ?_, h.km, ?_, ?_⟩
  · obtain ⟨n, xs, hp⟩ := h1.pv
    exact ⟨n, xs, R hp (by decide) (by decide)⟩
  · rw [List.length_append]
    exact row_other hr hcz kz (by decide)
  · intro i t ht
    by_cases hi : i < L.length
    · rw [List.getElem?_append_left hi] at ht
      obtain ⟨k, n, c, xs, rfl, hh⟩ := h1.ts.each i t ht
      exact ⟨k, n, c, xs, rfl, R hh (by decide) (by decide)⟩
    · have hi' : i = L.length := by
        have := (List.getElem?_eq_some_iff.1 ht).1
        simp at this
        omega
      subst hi'
      have e : t = .slice (some ⟨a, 0, none⟩) 0 8 := by simpa using ht.symm
      subst e
      exact ⟨a, 0, 8, [], rfl, R hnew (by decide) (by decide)⟩
  · intro i j t u k hi hj ht hu
    have old : ∀ (i : Nat) (t : Value), (L ++ [Value.slice (some ⟨a, 0, none⟩) 0 8])[i]? = some t → t.ownBlock = some k → (i < L.length ∧ L[i]? = some t ∧ k < w.heap.size) ∨ (i = L.length ∧ k = a) := fun i t ht hk => by
      by_cases hi : i < L.length
      · rw [List.getElem?_append_left hi] at ht
        obtain ⟨k', n, c, xs, rfl, hh⟩ := h.ts.each i t ht
        exact .inl ⟨hi, ht, (row_block hh k hk).2⟩
      · have hi' : i = L.length := by
          have := (List.getElem?_eq_some_iff.1 ht).1
          simp at this
          omega
        subst hi'
        have e : t = .slice (some ⟨a, 0, none⟩) 0 8 := by simpa using ht.symm
        subst e
        exact .inr ⟨rfl, by cases hk; rfl⟩
    rcases old i t hi ht with ⟨h1, h2, h3⟩ | ⟨h1, h2⟩ <;> rcases old j u hj hu with ⟨g1, g2, g3⟩ | ⟨g1, g2⟩
    · exact h.ts.apart i j t u k h2 g2 ht hu
    · omega
    · omega
    · omega
  · rw [List.getElem?_append_left (by have := h.le; omega)] at hr'
    have := h1.each i t r u hi ht hr' hu
    exact ⟨this.eq, R this.row (by decide) (by decide)⟩
  · exact chg_ext (chg_ext h1.chg hc5 h.ks) hcz (fun j e => by have e : j = D := e; rw [e]; exact .inl hKD)
  · intro j hj
    rcases ho with ho | ho
    · exact h.ks j (by rw [← ho]; exact hj)
    · rw [ho] at hj
      cases hj
      exact .inr (Nat.le_trans h.chg.size hal.size)
  · intro t ht j hj
    rcases List.mem_append.1 ht with ht | ht
    · exact h.kl t ht j hj
    · have e : t = .slice (some ⟨a, 0, none⟩) 0 8 := by simpa using ht
      subst e
      cases hj
      exact .inr (Nat.le_trans h.chg.size ha)
/-- A row is laid anew. -/
theorem PwI.put {w0 : World} {K : Nat → Prop} {l : List PaT} {w w6 : World} {D q k0 kz sg n0 c0 sn sc cz : Nat} {tv pv nv : Value} {M : List Value} {mv : Value} {L us : List Value} {x : PaT} (h : PwI w0 K l w D q tv pv nv M mv (.slice (some ⟨sg, 0, none⟩) sn sc) L us)
    (hq : L[q]? = some (.slice (some ⟨k0, 0, none⟩) n0 c0)) (hc : Chg w w6 (fun j => j = k0)) (hz : kz = k0 ∨ w.heap.size ≤ kz) (hr : w6.ownsRow 0 119 3 (.slice (some ⟨kz, 0, none⟩) (x.nodes.length + 1) cz) (x.nodes.length + 1) (x.nodes.flatMap seCs ++ seCs roomS)) :
    PwI w0 K l (w6.setCell ⟨sg, q, none⟩ (.slice (some ⟨kz, 0, none⟩) (x.nodes.length + 1) cz)) D q tv pv nv M mv (.slice (some ⟨sg, 0, none⟩) sn sc) (L.set q (.slice (some ⟨kz, 0, none⟩) (x.nodes.length + 1) cz)) us ∧ NsAt (w6.setCell ⟨sg, q, none⟩ (.slice (some ⟨kz, 0, none⟩) (x.nodes.length + 1) cz)) x (.slice (some ⟨kz, 0, none⟩) (x.nodes.length + 1) cz) (.slice (some ⟨kz, 0, none⟩) x.nodes.length cz) := by
  obtain ⟨k', n', c', xs', he', hr0⟩ := h.ts.each q _ hq
  cases he'
  obtain ⟨cur0, hk0⟩ := row_kind hr0 k0 rfl
  have k6 : Kind w (fun j => j = k0) 119 := Kind.one hk0
  have hsg : w6.ownsRow 0 92 1 (.slice (some ⟨sg, 0, none⟩) sn sc) L.length L := row_other h.ts.row hc k6 (by decide)
  obtain ⟨curs, hks⟩ := row_kind hsg sg rfl
  have hcz : Chg w6 (w6.setCell ⟨sg, q, none⟩ (.slice (some ⟨kz, 0, none⟩) (x.nodes.length + 1) cz)) (fun k => k = sg) := Chg.set w6 ⟨sg, q, none⟩ _
  have kz' : Kind w6 (fun k => k = sg) 92 := Kind.one hks
  have R : ∀ {base e sz n : Nat} {v : Value} {xs : List Value}, w.ownsRow base e sz v n xs → e ≠ 119 → e ≠ 92 → (w6.setCell ⟨sg, q, none⟩ (.slice (some ⟨kz, 0, none⟩) (x.nodes.length + 1) cz)).ownsRow base e sz v n xs := fun hh h1 h2 => row_other (row_other hh hc k6 h1) hcz kz' h2
  have R3 : ∀ {base sz n : Nat} {v : Value} {xs : List Value}, w.ownsRow base 119 sz v n xs → v.ownBlock ≠ some k0 → (w6.setCell ⟨sg, q, none⟩ (.slice (some ⟨kz, 0, none⟩) (x.nodes.length + 1) cz)).ownsRow base 119 sz v n xs := fun hh h1 => row_other (row_chg hh hc (fun k hk e => h1 (by have e : k = k0 := e; rw [← e]; exact hk))) hcz kz' (by decide)
  have hoth : ∀ (i : Nat) (t : Value), L[i]? = some t → i ≠ q → t.ownBlock ≠ some k0 := fun i t ht hi e => hi (h.ts.apart i q t _ k0 ht hq e rfl)
  have hsn : sn = L.length := by
    rcases hsg.2 with ⟨h0, _⟩ | ⟨_, _, _, hv, _⟩
    · cases h0
    · cases hv; rfl
  have hql : q < L.length := (List.getElem?_eq_some_iff.1 hq).1
  refine ⟨⟨blk_other (blk_other h.box hc k6 (by decide)) hcz kz' (by decide), ?_, (h.ns.other hc k6 (by decide) (by decide)).other hcz kz' (by decide) (by decide), ⟨?_, ?_, ?_⟩, h.tvl, R h.m (by decide) (by decide), h.len, by rw [List.length_set]; exact h.le, fun i t r u hi ht hr' hu => ?_, ?_, h.km, h.ks, ?_⟩, ⟨⟨kz, cz, rfl, rfl⟩, row_other hr hcz kz' (by decide)⟩⟩
  · obtain ⟨n, xs, hp⟩ := h.pv
    exact ⟨n, xs, R hp (by decide) (by decide)⟩
  · rw [List.length_set]
    subst hsn
    exact row_set hsg
  · intro i t ht
    by_cases hi : i = q
    · subst hi
      rw [List.getElem?_set_self hql] at ht
      cases ht
      exact ⟨kz, _, cz, _, rfl, row_other hr hcz kz' (by decide)⟩
    · rw [List.getElem?_set_ne (fun e => hi e.symm)] at ht
      obtain ⟨k, n, c, xs, rfl, hh⟩ := h.ts.each i t ht
      exact ⟨k, n, c, xs, rfl, R3 hh (hoth i _ ht hi)⟩
  · intro i j t u k hi hj ht hu
    have old : ∀ (i : Nat) (t : Value), (L.set q (.slice (some ⟨kz, 0, none⟩) (x.nodes.length + 1) cz))[i]? = some t → t.ownBlock = some k → (i ≠ q ∧ L[i]? = some t ∧ k < w.heap.size ∧ k ≠ k0) ∨ (i = q ∧ k = kz) := fun i t ht hk => by
      by_cases hi : i = q
      · subst hi
        rw [List.getElem?_set_self hql] at ht
        cases ht
        exact .inr ⟨rfl, by cases hk; rfl⟩
      · rw [List.getElem?_set_ne (fun e => hi e.symm)] at ht
        obtain ⟨k', n, c, xs, rfl, hh⟩ := h.ts.each i t ht
        exact .inl ⟨hi, ht, (row_block hh k hk).2, fun e => hoth i _ ht hi (by rw [← e]; exact hk)⟩
    rcases old i t hi ht with ⟨h1, h2, h3, h4⟩ | ⟨h1, h2⟩ <;> rcases old j u hj hu with ⟨g1, g2, g3, g4⟩ | ⟨g1, g2⟩
    · exact h.ts.apart i j t u k h2 g2 ht hu
    · omega
    · omega
    · omega
  · rw [List.getElem?_set_ne (by omega)] at hr'
    have := h.each i t r u hi ht hr' hu
    exact ⟨this.eq, R3 this.row (hoth i r hr' (by omega))⟩
  · exact chg_ext (chg_ext h.chg hc (fun j e => by have e : j = k0 := e; rw [e]; exact h.kl _ (List.mem_of_getElem? hq) k0 rfl)) hcz (fun j e => by have e : j = sg := e; rw [e]; exact h.ks sg rfl)
  · intro t ht j hj
    rcases List.mem_or_eq_of_mem_set ht with ht | rfl
    · exact h.kl t ht j hj
    · cases hj
      rcases hz with rfl | hz
      · exact h.kl _ (List.mem_of_getElem? hq) _ rfl
      · exact .inr (Nat.le_trans h.chg.size hz)
/-- A change is put to the others. -/
theorem PwI.push {w0 : World} {K : Nat → Prop} {l : List PaT} {w w1 w7 : World} {D q : Nat} {tv pv nv : Value} {M : List Value} {mv mv' sv u r : Value} {L us : List Value} {x : PaT} (h : PwI w0 K l w D q tv pv nv M mv sv L us) (hal : Below w.heap.size w w1) (hx : l[q]? = some x) (hL : L[q]? = some r) (hu : NsAt w x r u)
    (hr : w7.ownsRow 0 96 5 mv' (q + 1) ((((l.take q).zip us).flatMap fun x => paCs x.1 x.2) ++ paCs x u)) (hg : w1.grownBy w7 mv.ownBlock) (ho : mv'.ownBlock = mv.ownBlock ∨ mv'.ownBlock = some w1.heap.size) : PwI w0 K l w7 D (q + 1) tv pv nv M mv' sv L (us ++ [u]) := by
  have h1 := h.at hal
  have hc := Chg.grown hg
  have k7 : Kind w1 (fun k => mv.ownBlock = some k) 96 := Kind.own h1.m
  have R : ∀ {base e sz n : Nat} {v : Value} {xs : List Value}, w1.ownsRow base e sz v n xs → e ≠ 96 → w7.ownsRow base e sz v n xs := fun hh h1 => row_other hh hc k7 h1
  have hqL := (List.getElem?_eq_some_iff.1 hL).1
  have hql := (List.getElem?_eq_some_iff.1 hx).1
  refine ⟨blk_other h1.box hc k7 (by decide), ?_, h1.ns.other hc k7 (by decide) (by decide), h1.ts.other hc k7 (by decide) (by decide), h.tvl, ?_, by rw [List.length_append, h.len]; rfl, hqL, fun i t r' u' hi ht hr' hu' => ?_, chg_ext h1.chg hc h.km, ?_, h.ks, h.kl⟩
  · obtain ⟨n, xs, hp⟩ := h1.pv
    exact ⟨n, xs, R hp (by decide)⟩
  · rw [take_at hx, List.zip_append (by rw [List.length_take, h.len]; omega), List.flatMap_append]
    simpa using hr
  · by_cases hiq : i < q
    · rw [List.getElem?_append_left (by rw [h.len]; exact hiq)] at hu'
      have := h1.each i t r' u' hiq ht hr' hu'
      exact ⟨this.eq, R this.row (by decide)⟩
    · obtain rfl : i = q := by omega
      rw [List.getElem?_append_right (by rw [h.len]; exact Nat.le_refl _), h.len, Nat.sub_self] at hu'
      have e1 : u = u' := by simpa using hu'
      rw [hx] at ht
      rw [hL] at hr'
      cases ht
      cases hr'
      subst e1
      exact ⟨hu.eq, R (owns_below hu.row hal) (by decide)⟩
  · intro j hj
    rcases ho with ho | ho
    · exact h.km j (by rw [← ho]; exact hj)
    · rw [ho] at hj
      cases hj
      exact .inr (Nat.le_trans h.chg.size hal.size)
/-- A box of its own is written. -/
theorem PwI.boxed {w0 : World} {K : Nat → Prop} {l : List PaT} {w w' : World} {D q gp : Nat} {tv pv nv : Value} {M : List Value} {mv sv : Value} {L us : List Value} (h : PwI w0 K l w D q tv pv nv M mv sv L us) (hc : Chg w w' (fun k => k = gp)) (hk : Kind w (fun k => k = gp) 96) (hm : mv.ownBlock ≠ some gp) (hg : w0.heap.size ≤ gp) : PwI w0 K l w' D q tv pv nv M mv sv L us :=
  ⟨blk_other h.box hc hk (by decide), by obtain ⟨n, xs, hp⟩ := h.pv; exact ⟨n, xs, row_other hp hc hk (by decide)⟩, h.ns.other hc hk (by decide) (by decide), h.ts.other hc hk (by decide) (by decide), h.tvl, row_chg h.m hc (fun k hk' e => hm (by have e : k = gp := e; rw [← e]; exact hk')), h.len, h.le, fun i t r u hi ht hr hu => ⟨(h.each i t r u hi ht hr hu).eq, row_other (h.each i t r u hi ht hr hu).row hc hk (by decide)⟩, chg_ext h.chg hc (fun j e => by have e : j = gp := e; rw [e]; exact .inr hg), h.km, h.ks, h.kl⟩
end Go.Proofs.Ytlidkieljiebiaa
