import Derived.Test.YtbblckcjedjbcaaGreatDoorXFit
import Derived.Test.YtbblckcjedjbcaaGreatDoorJBook
namespace Go.Proofs.YtbblckcjedjbcaaGreatDoor
open Go.RowKit Go.Maps
set_option linter.unusedVariables false
set_option linter.unusedSimpArgs false

theorem La.gl {w wr : World} {K : Nat → Prop} {B : Nat} {vt : Value} {T : List On × List On} (h : La w wr K B vt T) (hg : Ground w) : Gl K ∧ Ground wr := by
  have h1 := hg.lt
  refine ⟨⟨fun e => ?_, fun e => ?_⟩, hg.below h.own.bel⟩
  · have := h.own.low _ e
    omega
  · have := h.own.low _ e
    omega
theorem La.os {w wr : World} {K : Nat → Prop} {B : Nat} {a : Option Addr} {n c : Nat} {T : List On × List On} (h : La w wr K B (.slice a n c) T) : OsAt wr a T.2 := by
  obtain ⟨a', c', e, ho⟩ := os_of_row h.row
  simp only [Value.slice.injEq] at e
  rw [e.1]
  exact ho
theorem siz_nil : sizO [] = 1 := rfl
end Go.Proofs.YtbblckcjedjbcaaGreatDoor
namespace Go.Proofs.YtbblckcjedjbcaaGreatDoor
open Go.RowKit Go.Maps
set_option linter.unusedVariables false
set_option linter.unusedSimpArgs false

def noOn : On := ⟨0, 0, ⟨#[]⟩, 0, 0⟩
def turnL (T : List On) (k q : Nat) : List On := (List.range q).map (fun r => T.getD ((T.length - 1 - r + k) % T.length) noOn)
theorem turn_next (T : List On) (k q : Nat) : turnL T k (q + 1) = turnL T k q ++ [T.getD ((T.length - 1 - q + k) % T.length) noOn] := by
  unfold turnL
  rw [List.range_succ, List.map_append]
  rfl
theorem turn_len (T : List On) (k q : Nat) : (turnL T k q).length = q := by simp [turnL]
theorem mod_inj {n i j k : Nat} (hi : i < n) (hj : j < n) (h : (i + k) % n = (j + k) % n) : i = j := by
  have hk : k % n < n := Nat.mod_lt _ (by omega)
  have e : ∀ a, a < n → (a + k) % n = if a + k % n < n then a + k % n else a + k % n - n := fun a ha => by
    rw [Nat.add_mod, Nat.mod_eq_of_lt ha]
    split
    · next h => exact Nat.mod_eq_of_lt h
    · next h => rw [Nat.mod_eq_sub_mod (by omega), Nat.mod_eq_of_lt (by omega)]
  rw [e i hi, e j hj] at h
  split at h <;> split at h <;> omega
theorem fit_nodup {T : List On} (h : Fit T) : T.Nodup := h.key.imp (fun {a b} hab e => hab (by rw [e]; exact ⟨rfl, rfl⟩))
theorem perm_of_sub {A B : List On} (ha : A.Nodup) (hb : B.Nodup) (hs : ∀ x ∈ A, x ∈ B) (hl : A.length = B.length) : A.Perm B := by
  refine (List.perm_ext_iff_of_nodup ha hb).2 (fun x => ⟨hs x, fun hx => ?_⟩)
  by_cases h : x ∈ A
  · exact h
  · have h1 : (x :: A).Nodup := List.nodup_cons.2 ⟨h, ha⟩
    have h2 := List.Nodup.length_le_of_subset h1 (l₂ := B) (fun y hy => by
      rcases List.mem_cons.1 hy with rfl | hy
      · exact hx
      · exact hs y hy)
    rw [List.length_cons] at h2
    omega
theorem getD_at {T : List On} {i : Nat} (h : i < T.length) : T.getD i noOn = T[i] := by
  rw [List.getD_eq_getElem?_getD, List.getElem?_eq_getElem h]
  rfl
theorem nodup_at {T : List On} (h : T.Nodup) {i j : Nat} (hi : i < T.length) (hj : j < T.length) (e : T[i] = T[j]) : i = j := by
  have h1 := List.pairwise_iff_getElem.1 h
  rcases Nat.lt_trichotomy i j with g | g | g
  · exact absurd e (h1 i j hi hj g)
  · exact g
  · exact absurd e.symm (h1 j i hj hi g)
theorem turn_perm {T : List On} (hF : Fit T) (k : Nat) : (turnL T k T.length).Perm T := by
  have hT := fit_nodup hF
  by_cases h0 : T.length = 0
  · have : T = [] := List.eq_nil_of_length_eq_zero h0
    subst this
    exact List.Perm.refl _
  · have hm : ∀ a, a % T.length < T.length := fun a => Nat.mod_lt _ (by omega)
    refine perm_of_sub ?_ hT (fun x hx => ?_) (turn_len _ _ _)
    · unfold turnL
      refine List.pairwise_map.2 (List.Pairwise.imp_of_mem (fun {a b} ha hb hab e => ?_) (List.nodup_range (n := T.length)))
      rw [List.mem_range] at ha hb
      have h1 := hm (T.length - 1 - a + k)
      have h2 := hm (T.length - 1 - b + k)
      rw [getD_at h1, getD_at h2] at e
      have h3 := nodup_at hT h1 h2 e
      have h4 := mod_inj (by omega) (by omega) h3
      exact hab (by omega)
    · unfold turnL at hx
      obtain ⟨r, _, rfl⟩ := List.mem_map.1 hx
      rw [getD_at (hm _)]
      exact List.getElem_mem _
end Go.Proofs.YtbblckcjedjbcaaGreatDoor
namespace Go.Proofs.YtbblckcjedjbcaaGreatDoor
open Go.RowKit Go.Maps
set_option linter.unusedVariables false
set_option linter.unusedSimpArgs false

theorem del_ins {L : List On} {x : On} (h : hasO L x.s x.i = false) (ho : OrdO (insO x L)) (hL : OrdO L) : delO (insO x L) x.s x.i = L := by
  refine ord_same (List.Pairwise.filter _ ho) hL ?_
  have h1 : (delO (insO x L) x.s x.i).Perm (delO (L ++ [x]) x.s x.i) := (insO_perm x L).filter _
  refine h1.trans ?_
  unfold delO
  rw [List.filter_append]
  have h2 : L.filter (fun y => !(decide (y.s = x.s) && decide (y.i = x.i))) = L := delO_none h
  rw [h2]
  simp
theorem ins_has (L : List On) (x : On) : dropC (insO x L) x.s x.i = 0 := by
  unfold dropC
  rw [if_pos (hasO_iff.2 ⟨x, (insO_perm x L).mem_iff.2 (by simp), rfl, rfl⟩)]
theorem rem_neg {k : Int} (h : k < 0) : ∃ r : Nat, (-(k + 1)).tmod 1000 = (r : Int) ∧ r ≤ 1000 :=
  ⟨((-(k + 1)).tmod 1000).toNat, by rw [Int.tmod_eq_emod_of_nonneg (by omega)]; omega, by rw [Int.tmod_eq_emod_of_nonneg (by omega)]; omega⟩
theorem rem_pos {k : Int} (h : ¬ k < 0) : ∃ r : Nat, k.tmod 1000 = (r : Int) ∧ r ≤ 1000 :=
  ⟨(k.tmod 1000).toNat, by rw [Int.tmod_eq_emod_of_nonneg (by omega)]; omega, by rw [Int.tmod_eq_emod_of_nonneg (by omega)]; omega⟩
theorem Own9.gl {w wr : World} {K : Nat → Prop} {B : Nat} {L : List On} (h : Own9 w wr K B L) (hg : Ground w) : Ground wr := hg.below h.bel
end Go.Proofs.YtbblckcjedjbcaaGreatDoor
namespace Go.Proofs.YtbblckcjedjbcaaGreatDoor.J
open Go.RowKit
set_option linter.unusedVariables false
set_option linter.unusedSimpArgs false

def elT (x : Tg) : El 2 := ⟨encT x, rfl, by simp [encT, Value.oneCell']⟩
def elW (x : Wa) : El 4 := ⟨x.cs, rfl, by simp [Wa.cs, Value.oneCell']⟩
theorem fl_elT (l : List Tg) : fl (l.map elT) = tgCs l := by simp [fl, tgCs, List.flatMap_map, elT]
theorem fl_elW (l : List Wa) : fl (l.map elW) = waCs l := by simp [fl, waCs, List.flatMap_map, elW]
theorem fl_one {sz : Nat} (l : List (El sz)) : ∀ u ∈ fl l, u.oneCell' = true := fun u hu => by
  obtain ⟨e, _, he⟩ := List.mem_flatMap.1 hu
  exact e.2.2 u he
theorem snoc_at {α : Type} (l : List α) (x : α) : (l ++ [x])[l.length]? = some x := by simp
theorem FamB.snoc {us : List Value} {u : Value} {j : Nat} (h : FamB (us ++ [u]) j) : FamB us j ∨ u.ownBlock = some j := by
  obtain ⟨k, v, hv, hb⟩ := h
  rw [List.getElem?_append] at hv
  split at hv
  · exact .inl ⟨k, v, hv, hb⟩
  · rename_i hlt
    by_cases hz : k - us.length = 0
    · rw [hz] at hv
      have : u = v := by simpa using hv
      exact .inr (by rw [this]; exact hb)
    · rw [List.getElem?_eq_none (by simp; omega)] at hv; cases hv
/-- Elements are put behind a list that is one's own. -/
theorem wpList_appG {P : Program} {w : World} {ops : Array Oper} {rest : List Oper} {o : Oper} {act : Act} {Q : Exit → Act → World → Prop} (hgd : o.guard = none) (s x : Operand) (t T : TypeId) (i : TypeInfo) (z : Value) (sz bytes : Nat)
    (ho : o.op = .call { callee := .builtin .append, args := #[s, x], argTypes := #[t, t] }) (ht : P.underlying t = some (.slice T)) (hi : P.info? T = some i) (hz : i.zero = some z)
    (hsize : i.size = sz) (hby : i.bytes = bytes) (hzs : z.cells.size = sz) (h0 : 0 < sz) (v : Value) (n : Nat) (xs : List Value) (hs : act.eval s = v) (hown : w.ownsRow 0 T sz v n xs)
    (a : Option Addr) (c k : Nat) (ys : List Value) (hx : act.eval x = .slice a k c) (hm : w.ownsRow 0 T sz (.slice a k c) k ys) (h1 : ∀ u ∈ ys, u.oneCell' = true) (h63 : n + k ≤ maxLen) (hbytes : (n + k) * bytes ≤ 140737488355328)
    (h : ∀ v' w', w'.ownsRow 0 T sz v' (n + k) (xs ++ ys) → Chg w w' (fun j => v.ownBlock = some j) → (∀ j, v'.ownBlock = some j → v.ownBlock = some j ∨ w.heap.size ≤ j) → wpList P ops Q rest (act.put o.dst v') w') : wpList P ops Q (o :: rest) act w := by
  rcases hm.2 with ⟨h2, h3⟩ | ⟨g, cap, cur, hv, _⟩
  · subst h3
    have hn : ys = [] := List.eq_nil_of_length_eq_zero (by simpa using hm.1)
    subst hn
    simp only [Value.slice.injEq] at h2
    obtain ⟨rfl, _, rfl⟩ := h2
    refine wpList_append_own_none hgd s x t ho 0 T i sz ht hi _ _ _ hs hown hx ?_
    exact h v w (by rw [List.append_nil]; exact hown) (Chg.refl _ _) (fun j hj => .inl hj)
  · simp only [Value.slice.injEq] at hv
    obtain ⟨rfl, _, rfl⟩ := hv
    refine wpList_append_own_at _ hgd s x t ho 0 T i z sz bytes ht hi hz hsize hby hzs h0 v n xs hs hown ⟨g, 0, none⟩ k c ys hx hm.1 (fun j u hu => by rw [addr_add, Nat.zero_add]; exact cell_n hm hu) h1 h63 hbytes (Nat.zero_le _) ?_
    intro v' w' ho' hg' _ hat'
    refine h v' w' ho' (Chg.grown hg') (fun j hj => ?_)
    rcases hat' with e | e
    · exact .inl (by rw [← e]; exact hj)
    · rw [hj] at e
      cases e
      exact .inr (Nat.le_refl _)
/-- A list of lists, under its head. -/
structure Hf (w : World) (tH T sz : Nat) (hv : Value) (us : List Value) (ls : List (List (El sz))) : Prop where
  hr : w.ownsRow 0 tH 1 hv us.length us
  fu : Fam w T sz us ls
def HfB (hv : Value) (us : List Value) (j : Nat) : Prop := hv.ownBlock = some j ∨ FamB us j
theorem Hf.keep {w w' : World} {tH T sz : Nat} {hv : Value} {us : List Value} {ls : List (List (El sz))} (h : Hf w tH T sz hv us ls) (hk : Kp w w' (HfB hv us)) : Hf w' tH T sz hv us ls :=
  ⟨owns_same h.hr (fun b hb => hk.block b (row_block h.hr b hb).2 (.inl hb)), h.fu.keep (hk.mono (fun b _ hb => .inr hb))⟩
theorem Hf.lt {w : World} {tH T sz : Nat} {hv : Value} {us : List Value} {ls : List (List (El sz))} (h : Hf w tH T sz hv us ls) : ∀ j, HfB hv us j → j < w.heap.size := by
  rintro j (hj | hj)
  · exact (row_block h.hr j hj).2
  · exact h.fu.lt hj
theorem Hf.kind {w : World} {tH T sz : Nat} {hv : Value} {us : List Value} {ls : List (List (El sz))} (h : Hf w tH T sz hv us ls) : ∀ j, HfB hv us j → ∃ cur e, w.heap[j]? = some (.cells cur e (0, 0)) ∧ (e = tH ∨ e = T) := by
  rintro j (hj | ⟨k, u, hu, hb⟩)
  · obtain ⟨c, hc⟩ := owns_kind h.hr hj
    exact ⟨c, _, hc, .inl rfl⟩
  · obtain ⟨l, _, hr⟩ := h.fu.get hu
    obtain ⟨c, hc⟩ := owns_kind hr hb
    exact ⟨c, _, hc, .inr rfl⟩
theorem Hf.none (w : World) (tH T sz : Nat) : Hf w tH T sz (.slice none 0 0) [] [] :=
  ⟨⟨rfl, .inl ⟨rfl, rfl⟩⟩, ⟨rfl, fun k u l hu => by simp at hu, fun i j u v b hu => by simp at hu⟩⟩
/-- One list more: u is laid in w; the head has grown in w3. -/
theorem Hf.push {w w2 w3 : World} {tH T sz : Nat} {hv hv' u : Value} {us : List Value} {ls : List (List (El sz))} {l : List (El sz)} (h : Hf w tH T sz hv us ls) (hT : T ≠ tH) (hr : w.ownsRow 0 T sz u l.length (fl l)) (hne : ∀ b, u.ownBlock = some b → ¬ FamB us b) (hb : Below w.heap.size w w2)
    (h3 : w3.ownsRow 0 tH 1 hv' (us.length + 1) (us ++ [u])) (hc : Chg w2 w3 (fun j => hv.ownBlock = some j)) (hn : ∀ j, hv'.ownBlock = some j → hv.ownBlock = some j ∨ w2.heap.size ≤ j) :
    Hf w3 tH T sz hv' (us ++ [u]) (ls ++ [l]) ∧ Chg w w3 (fun j => hv.ownBlock = some j) ∧ ∀ j, HfB hv' (us ++ [u]) j → HfB hv us j ∨ u.ownBlock = some j ∨ w.heap.size ≤ j := by
  have hcc : Chg w w3 (fun j => hv.ownBlock = some j) := chg_more (Chg.of_below hb _) hc (fun j hj => .inl hj)
  have keep : ∀ {n : Nat} {v : Value} {xs : List Value}, w.ownsRow 0 T sz v n xs → w3.ownsRow 0 T sz v n xs := fun {n v xs} hv' => owns_same hv' (fun b hb' => hcc.block b (row_block hv' b hb').2 (fun e => kind_ne2 hv' h.hr hb' e hT))
  have hlen : (us ++ [u]).length = us.length + 1 := by simp
  have hf : Fam w3 T sz us ls := ⟨h.fu.len, fun k v m hv' hm => keep (h.fu.row k v m hv' hm), h.fu.nd⟩
  refine ⟨⟨by rw [hlen]; exact h3, hf.push (keep hr) hne⟩, hcc, ?_⟩
  rintro j (hj | hj)
  · exact (hn j hj).elim (fun e => .inl (.inl e)) (fun e => .inr (.inr (Nat.le_trans hb.size e)))
  · exact hj.snoc.elim (fun e => .inl (.inr e)) (fun e => .inr (.inl e))
def BkB (B : Nat) (hv hn : Value) (us ms : List Value) (j : Nat) : Prop := j = B ∨ hv.ownBlock = some j ∨ hn.ownBlock = some j ∨ FamB us j ∨ FamB ms j
theorem Bo.keep {w w' : World} {B : Nat} {hv hn m1 m2 : Value} {us ms : List Value} {ls : List (List (El 2))} {ns : List (List (El 4))} (h : Bo w B hv hn m1 m2 us ms ls ns) (hk : Kp w w' (BkB B hv hn us ms)) : Bo w' B hv hn m1 m2 us ms ls ns :=
  ⟨by rw [hk.block B (lt_of_blk h.box) (.inl rfl)]; exact h.box, owns_same h.hr (fun b hb => hk.block b (row_block h.hr b hb).2 (.inr (.inl hb))), owns_same h.nr (fun b hb => hk.block b (row_block h.nr b hb).2 (.inr (.inr (.inl hb)))), h.fu.keep (hk.mono (fun b _ hb => .inr (.inr (.inr (.inl hb))))), h.fm.keep (hk.mono (fun b _ hb => .inr (.inr (.inr (.inr hb)))))⟩
theorem Bo.lt {w : World} {B : Nat} {hv hn m1 m2 : Value} {us ms : List Value} {ls : List (List (El 2))} {ns : List (List (El 4))} (h : Bo w B hv hn m1 m2 us ms ls ns) : ∀ j, BkB B hv hn us ms j → j < w.heap.size := by
  rintro j (rfl | hj | hj | hj | hj)
  · exact lt_of_blk h.box
  · exact (row_block h.hr j hj).2
  · exact (row_block h.nr j hj).2
  · exact h.fu.lt hj
  · exact h.fm.lt hj
/-- All of it; V: how the world was ahead of it. -/
structure Ak (V w : World) (B : Nat) (hv hn : Value) (us ms : List Value) (ls : List (List (El 2))) (ns : List (List (El 4))) (tv wv : Value) (cs ds : List Value) (cl : List (List (El 2))) (dl : List (List (El 4))) : Prop where
  bo : Bo w B hv hn (.slice none 0 0) (.slice none 0 0) us ms ls ns
  ct : Hf w 37 34 2 tv cs cl
  cw : Hf w 43 40 4 wv ds dl
  bt : ∀ j, BkB B hv hn us ms j → ¬ HfB tv cs j
  bw : ∀ j, BkB B hv hn us ms j → ¬ HfB wv ds j
  nb : ∀ j, BkB B hv hn us ms j → V.heap.size ≤ j
  nt : ∀ j, HfB tv cs j → V.heap.size ≤ j
  nw : ∀ j, HfB wv ds j → V.heap.size ≤ j
  bel : Below V.heap.size V w
theorem Ak.on {V w w' : World} {B : Nat} {hv hn : Value} {us ms : List Value} {ls : List (List (El 2))} {ns : List (List (El 4))} {tv wv : Value} {cs ds : List Value} {cl : List (List (El 2))} {dl : List (List (El 4))} (h : Ak V w B hv hn us ms ls ns tv wv cs ds cl dl) (hb : Below w.heap.size w w') : Ak V w' B hv hn us ms ls ns tv wv cs ds cl dl :=
  ⟨h.bo.keep (Kp.of_below hb _), h.ct.keep (Kp.of_below hb _), h.cw.keep (Kp.of_below hb _), h.bt, h.bw, h.nb, h.nt, h.nw, xtrans2 h.bel hb⟩
theorem Ak.pushV {V w w2 w3 : World} {B g3 c3 : Nat} {hv hn u : Value} {us ms : List Value} {ls : List (List (El 2))} {ns : List (List (El 4))} {tv wv : Value} {cs ds : List Value} {cl : List (List (El 2))} {dl : List (List (El 4))} {l : List (El 2)} (h : Ak V w B hv hn us ms ls ns tv wv cs ds cl dl) (hr : w.ownsRow 0 34 2 u l.length (fl l)) (hne : ∀ b, u.ownBlock = some b → ¬ FamB us b ∧ ¬ HfB tv cs b ∧ V.heap.size ≤ b) (hb : Below w.heap.size w w2)
    (h3 : w3.ownsRow 0 37 1 (.slice (some ⟨g3, 0, none⟩) (us.length + 1) c3) (us.length + 1) (us ++ [u])) (hal : (hv = .slice (some ⟨g3, 0, none⟩) us.length c3 ∧ w2.grownBy w3 (some g3)) ∨ (w2.heap.size ≤ g3 ∧ w2.grownBy w3 none)) :
    Ak V (w3.setCell ⟨B, 0, none⟩ (.slice (some ⟨g3, 0, none⟩) (us.length + 1) c3)) B (.slice (some ⟨g3, 0, none⟩) (us.length + 1) c3) hn (us ++ [u]) ms (ls ++ [l]) ns tv wv cs ds cl dl ∧ Chg w (w3.setCell ⟨B, 0, none⟩ (.slice (some ⟨g3, 0, none⟩) (us.length + 1) c3)) (BkB B hv hn us ms) := by
  obtain ⟨h1, h2⟩ := h.bo.pushV hr (fun b hb => (hne b hb).1) hb h3 hal
  have hs := hb.size
  have hV := h.bel.size
  have hhd : ∀ j, (Value.slice (some ⟨g3, 0, none⟩) (us.length + 1) c3).ownBlock = some j → hv.ownBlock = some j ∨ w.heap.size ≤ j := fun j hj => by
    cases hj
    rcases hal with ⟨e, _⟩ | ⟨hg, _⟩
    · exact .inl (by rw [e]; rfl)
    · exact .inr (Nat.le_trans hs hg)
  have hbk : ∀ j, BkB B (.slice (some ⟨g3, 0, none⟩) (us.length + 1) c3) hn (us ++ [u]) ms j → BkB B hv hn us ms j ∨ u.ownBlock = some j ∨ w.heap.size ≤ j := by
    rintro j (hj | hj | hj | hj | hj)
    · exact .inl (.inl hj)
    · exact (hhd j hj).elim (fun e => .inl (.inr (.inl e))) (fun e => .inr (.inr e))
    · exact .inl (.inr (.inr (.inl hj)))
    · exact hj.snoc.elim (fun e => .inl (.inr (.inr (.inr (.inl e))))) (fun e => .inr (.inl e))
    · exact .inl (.inr (.inr (.inr (.inr hj))))
  have h2' : Chg w (w3.setCell ⟨B, 0, none⟩ (.slice (some ⟨g3, 0, none⟩) (us.length + 1) c3)) (BkB B hv hn us ms) := h2.mono (fun b _ e => e.elim .inl (fun e => .inr (.inl e)))
  refine ⟨⟨h1, h.ct.keep (Kp.of_chg h2' (fun b _ hb e => h.bt b e hb)), h.cw.keep (Kp.of_chg h2' (fun b _ hb e => h.bw b e hb)), fun j hj hc => ?_, fun j hj hc => ?_, fun j hj => ?_, h.nt, h.nw, h.bel.trans (h2'.below hV (fun j _ e => h.nb j e))⟩, h2'⟩
  · rcases hbk j hj with e | e | e
    · exact h.bt j e hc
    · exact (hne j e).2.1 hc
    · have := h.ct.lt j hc; omega
  · rcases hbk j hj with e | e | e
    · exact h.bw j e hc
    · obtain ⟨c1, k1⟩ := owns_kind hr e
      obtain ⟨c2, e2, k2, k3⟩ := h.cw.kind j hc
      rw [k1] at k2
      simp only [Option.some.injEq, Obj.cells.injEq] at k2
      obtain ⟨_, rfl, _⟩ := k2
      rcases k3 with k3 | k3
      · exact absurd k3 (by decide)
      · exact absurd k3 (by decide)
    · have := h.cw.lt j hc; omega
  · rcases hbk j hj with e | e | e
    · exact h.nb j e
    · exact (hne j e).2.2
    · exact Nat.le_trans hV e
theorem Ak.pushN {V w w2 w3 : World} {B g3 c3 : Nat} {hv hn u : Value} {us ms : List Value} {ls : List (List (El 2))} {ns : List (List (El 4))} {tv wv : Value} {cs ds : List Value} {cl : List (List (El 2))} {dl : List (List (El 4))} {l : List (El 4)} (h : Ak V w B hv hn us ms ls ns tv wv cs ds cl dl) (hr : w.ownsRow 0 40 4 u l.length (fl l)) (hne : ∀ b, u.ownBlock = some b → ¬ FamB ms b ∧ ¬ HfB wv ds b ∧ V.heap.size ≤ b) (hb : Below w.heap.size w w2)
    (h3 : w3.ownsRow 0 43 1 (.slice (some ⟨g3, 0, none⟩) (ms.length + 1) c3) (ms.length + 1) (ms ++ [u])) (hal : (hn = .slice (some ⟨g3, 0, none⟩) ms.length c3 ∧ w2.grownBy w3 (some g3)) ∨ (w2.heap.size ≤ g3 ∧ w2.grownBy w3 none)) :
    Ak V (w3.setCell ⟨B, 2, none⟩ (.slice (some ⟨g3, 0, none⟩) (ms.length + 1) c3)) B hv (.slice (some ⟨g3, 0, none⟩) (ms.length + 1) c3) us (ms ++ [u]) ls (ns ++ [l]) tv wv cs ds cl dl ∧ Chg w (w3.setCell ⟨B, 2, none⟩ (.slice (some ⟨g3, 0, none⟩) (ms.length + 1) c3)) (BkB B hv hn us ms) := by
  obtain ⟨h1, h2⟩ := h.bo.pushN hr (fun b hb => (hne b hb).1) hb h3 hal
  have hs := hb.size
  have hV := h.bel.size
  have hhd : ∀ j, (Value.slice (some ⟨g3, 0, none⟩) (ms.length + 1) c3).ownBlock = some j → hn.ownBlock = some j ∨ w.heap.size ≤ j := fun j hj => by
    cases hj
    rcases hal with ⟨e, _⟩ | ⟨hg, _⟩
    · exact .inl (by rw [e]; rfl)
    · exact .inr (Nat.le_trans hs hg)
  have hbk : ∀ j, BkB B hv (.slice (some ⟨g3, 0, none⟩) (ms.length + 1) c3) us (ms ++ [u]) j → BkB B hv hn us ms j ∨ u.ownBlock = some j ∨ w.heap.size ≤ j := by
    rintro j (hj | hj | hj | hj | hj)
    · exact .inl (.inl hj)
    · exact .inl (.inr (.inl hj))
    · exact (hhd j hj).elim (fun e => .inl (.inr (.inr (.inl e)))) (fun e => .inr (.inr e))
    · exact .inl (.inr (.inr (.inr (.inl hj))))
    · exact hj.snoc.elim (fun e => .inl (.inr (.inr (.inr (.inr e))))) (fun e => .inr (.inl e))
  have h2' : Chg w (w3.setCell ⟨B, 2, none⟩ (.slice (some ⟨g3, 0, none⟩) (ms.length + 1) c3)) (BkB B hv hn us ms) := h2.mono (fun b _ e => e.elim .inl (fun e => .inr (.inr (.inl e))))
  refine ⟨⟨h1, h.ct.keep (Kp.of_chg h2' (fun b _ hb e => h.bt b e hb)), h.cw.keep (Kp.of_chg h2' (fun b _ hb e => h.bw b e hb)), fun j hj hc => ?_, fun j hj hc => ?_, fun j hj => ?_, h.nt, h.nw, h.bel.trans (h2'.below hV (fun j _ e => h.nb j e))⟩, h2'⟩
  · rcases hbk j hj with e | e | e
    · exact h.bt j e hc
    · obtain ⟨c1, k1⟩ := owns_kind hr e
      obtain ⟨c2, e2, k2, k3⟩ := h.ct.kind j hc
      rw [k1] at k2
      simp only [Option.some.injEq, Obj.cells.injEq] at k2
      obtain ⟨_, rfl, _⟩ := k2
      rcases k3 with k3 | k3
      · exact absurd k3 (by decide)
      · exact absurd k3 (by decide)
    · have := h.ct.lt j hc; omega
  · rcases hbk j hj with e | e | e
    · exact h.bw j e hc
    · exact (hne j e).2.1 hc
    · have := h.cw.lt j hc; omega
  · rcases hbk j hj with e | e | e
    · exact h.nb j e
    · exact (hne j e).2.2
    · exact Nat.le_trans hV e
/-- One more copy of tags. -/
theorem Ak.copiedT {V w w2 w3 : World} {B : Nat} {hv hn u : Value} {us ms : List Value} {ls : List (List (El 2))} {ns : List (List (El 4))} {tv tv' wv : Value} {cs ds : List Value} {cl : List (List (El 2))} {dl : List (List (El 4))} {l : List (El 2)} (h : Ak V w B hv hn us ms ls ns tv wv cs ds cl dl) (hr : w.ownsRow 0 34 2 u l.length (fl l)) (hne : ∀ b, u.ownBlock = some b → ¬ BkB B hv hn us ms b ∧ ¬ FamB cs b ∧ V.heap.size ≤ b) (hb : Below w.heap.size w w2)
    (h3 : w3.ownsRow 0 37 1 tv' (cs.length + 1) (cs ++ [u])) (hc : Chg w2 w3 (fun j => tv.ownBlock = some j)) (hn' : ∀ j, tv'.ownBlock = some j → tv.ownBlock = some j ∨ w2.heap.size ≤ j) :
    Ak V w3 B hv hn us ms ls ns tv' wv (cs ++ [u]) ds (cl ++ [l]) dl := by
  obtain ⟨h1, h2, h4⟩ := h.ct.push (by decide) hr (fun b hb => (hne b hb).2.1) hb h3 hc hn'
  have hV := h.bel.size
  have hcw : ∀ j, tv.ownBlock = some j → ¬ HfB wv ds j := fun j hj e => by
    obtain ⟨c1, k1⟩ := owns_kind h.ct.hr hj
    obtain ⟨c2, e2, k2, k3⟩ := h.cw.kind j e
    rw [k1] at k2
    simp only [Option.some.injEq, Obj.cells.injEq] at k2
    obtain ⟨_, rfl, _⟩ := k2
    rcases k3 with k3 | k3
    · exact absurd k3 (by decide)
    · exact absurd k3 (by decide)
  refine ⟨h.bo.keep (Kp.of_chg h2 (fun b _ hb e => h.bt b hb (.inl e))), h1, h.cw.keep (Kp.of_chg h2 (fun b _ hb e => hcw b e hb)), fun j hj hcj => ?_, h.bw, h.nb, fun j hj => ?_, h.nw, h.bel.trans (h2.below hV (fun j _ e => h.nt j (.inl e)))⟩
  · rcases h4 j hcj with e | e | e
    · exact h.bt j hj e
    · exact (hne j e).1 hj
    · have := h.bo.lt j hj; omega
  · rcases h4 j hj with e | e | e
    · exact h.nt j e
    · exact (hne j e).2.2
    · exact Nat.le_trans hV e
theorem Ak.copiedW {V w w2 w3 : World} {B : Nat} {hv hn u : Value} {us ms : List Value} {ls : List (List (El 2))} {ns : List (List (El 4))} {tv wv wv' : Value} {cs ds : List Value} {cl : List (List (El 2))} {dl : List (List (El 4))} {l : List (El 4)} (h : Ak V w B hv hn us ms ls ns tv wv cs ds cl dl) (hr : w.ownsRow 0 40 4 u l.length (fl l)) (hne : ∀ b, u.ownBlock = some b → ¬ BkB B hv hn us ms b ∧ ¬ FamB ds b ∧ V.heap.size ≤ b) (hb : Below w.heap.size w w2)
    (h3 : w3.ownsRow 0 43 1 wv' (ds.length + 1) (ds ++ [u])) (hc : Chg w2 w3 (fun j => wv.ownBlock = some j)) (hn' : ∀ j, wv'.ownBlock = some j → wv.ownBlock = some j ∨ w2.heap.size ≤ j) :
    Ak V w3 B hv hn us ms ls ns tv wv' cs (ds ++ [u]) cl (dl ++ [l]) := by
  obtain ⟨h1, h2, h4⟩ := h.cw.push (by decide) hr (fun b hb => (hne b hb).2.1) hb h3 hc hn'
  have hV := h.bel.size
  have hcw : ∀ j, wv.ownBlock = some j → ¬ HfB tv cs j := fun j hj e => by
    obtain ⟨c1, k1⟩ := owns_kind h.cw.hr hj
    obtain ⟨c2, e2, k2, k3⟩ := h.ct.kind j e
    rw [k1] at k2
    simp only [Option.some.injEq, Obj.cells.injEq] at k2
    obtain ⟨_, rfl, _⟩ := k2
    rcases k3 with k3 | k3
    · exact absurd k3 (by decide)
    · exact absurd k3 (by decide)
  refine ⟨h.bo.keep (Kp.of_chg h2 (fun b _ hb e => h.bw b hb (.inl e))), h.ct.keep (Kp.of_chg h2 (fun b _ hb e => hcw b e hb)), h1, h.bt, fun j hj hcj => ?_, h.nb, h.nt, fun j hj => ?_, h.bel.trans (h2.below hV (fun j _ e => h.nw j (.inl e)))⟩
  · rcases h4 j hcj with e | e | e
    · exact h.bw j hj e
    · exact (hne j e).1 hj
    · have := h.bo.lt j hj; omega
  · rcases h4 j hj with e | e | e
    · exact h.nw j e
    · exact (hne j e).2.2
    · exact Nat.le_trans hV e
end Go.Proofs.YtbblckcjedjbcaaGreatDoor.J
namespace Go.Proofs.YtbblckcjedjbcaaGreatDoor.J
open Go.RowKit
set_option linter.unusedVariables false
set_option linter.unusedSimpArgs false

set_option maxHeartbeats 16000000 in
set_option maxRecDepth 100000 in
theorem sameTagsQ (v u : Value) (ts : List Tg) (w : World) (hv : TsAt w v ts) (hu : TsAt w u ts) (hl : ts.length ≤ 100000) :
    Calls Tryz.prog 17 #[v, u] w fun e w' => e = .returned (.bool true) ∧ ∃ m, w' = w.drewN m := by
  obtain ⟨a, c, rfl⟩ := owns_shape hv
  obtain ⟨b, d, rfl⟩ := owns_shape hu
  have HV : Hid (TsAt w (.slice a ts.length c) ts) := hv
  have HU : Hid (TsAt w (.slice b ts.length d) ts) := hu
  obtain ⟨m, hm⟩ : ∃ m, ts.length = m := ⟨_, rfl⟩
  have HM : Hid (ts.length = m) := hm
  have HV' : Hid (w.ownsRow 0 34 2 (.slice a m c) m (tgCs ts)) := by have h := HV.out; unfold TsAt at h; rw [hm] at h; exact h
  have HU' : Hid (w.ownsRow 0 34 2 (.slice b m d) m (tgCs ts)) := by have h := HU.out; unfold TsAt at h; rw [hm] at h; exact h
  rw [hm] at hl ⊢
  clear hv hu hm HV HU
  go_enter Tryz.func17, Tryz.ntmps17
  go_wp2_with fail
  go_loopw [5] (fun vi wr => ∃ (j q : Nat), vi = .int .i64 j ∧ j ≤ m ∧ wr = w.drewN q) (fun vi _ => m - (intOf vi).toNat)
  case atStart => exact ⟨0, 0, rfl, Nat.zero_le _, rfl⟩
  case round =>
    obtain ⟨j, q, rfl, hj, rfl⟩ := hrel
    by_cases hlt : j < m
    · have hlt' : (j : Int) < (m : Int) := by omega
      obtain ⟨t, ht⟩ : ∃ t, ts[j]? = some t := ⟨ts[j]'(by rw [HM.out]; exact hlt), List.getElem?_eq_getElem _⟩
      obtain ⟨g, rfl⟩ := row_addr HV'.out (by omega)
      obtain ⟨k, rfl⟩ := row_addr HU'.out (by omega)
      obtain ⟨s, i⟩ := t
      obtain ⟨t1, t2⟩ := tg_cells ts ht
      have x0 : w.cell? ⟨g, j * 2, none⟩ = some (.int .i64 s) := cell_n HV'.out t1
      have x1 : w.cell? ⟨g, j * 2 + 1, none⟩ = some (.int .i64 i) := cell_n HV'.out t2
      have y0 : w.cell? ⟨k, j * 2, none⟩ = some (.int .i64 s) := cell_n HU'.out t1
      have y1 : w.cell? ⟨k, j * 2 + 1, none⟩ = some (.int .i64 i) := cell_n HU'.out t2
      clear ht t1 t2
      go_wp2_with fail
      go_quiet (fail)
      go_wp2_with fail
      go_roundw
      case rel => exact ⟨j + 1, _, by go_num, by omega, rfl⟩
      case measure => simp [intOf]; omega
    · have hge : ¬ ((j : Int) < (m : Int)) := by omega
      go_wp2_with fail
      go_ret
      exact ⟨rfl, q, rfl⟩
set_option maxHeartbeats 16000000 in
set_option maxRecDepth 100000 in
theorem sameWatchesQ (v u : Value) (L : List Wa) (w : World) (hv : w.ownsRow 0 40 4 v L.length (waCs L)) (hu : w.ownsRow 0 40 4 u L.length (waCs L)) (hl : L.length ≤ 100000) :
    Calls Tryz.prog 20 #[v, u] w fun e w' => e = .returned (.bool true) ∧ ∃ m, w' = w.drewN m := by
  obtain ⟨a, c, rfl⟩ := owns_shape hv
  obtain ⟨b, d, rfl⟩ := owns_shape hu
  have HV : Hid _ := hv
  have HU : Hid _ := hu
  obtain ⟨m, hm⟩ : ∃ m, L.length = m := ⟨_, rfl⟩
  have HM : Hid (L.length = m) := hm
  rw [hm] at hl HV HU ⊢
  clear hv hu hm
  go_enter Tryz.func20, Tryz.ntmps20
  go_wp2_with fail
  go_loopw [5] (fun vi wr => ∃ (j q : Nat), vi = .int .i64 j ∧ j ≤ m ∧ wr = w.drewN q) (fun vi _ => m - (intOf vi).toNat)
  case atStart => exact ⟨0, 0, rfl, Nat.zero_le _, rfl⟩
  case round =>
    obtain ⟨j, q, rfl, hj, rfl⟩ := hrel
    by_cases hlt : j < m
    · have hlt' : (j : Int) < (m : Int) := by omega
      obtain ⟨t, ht⟩ : ∃ t, L[j]? = some t := ⟨L[j]'(by rw [HM.out]; exact hlt), List.getElem?_eq_getElem _⟩
      have hV := HV.out
      have hU := HU.out
      obtain ⟨g, rfl⟩ := row_addr hV (by omega)
      obtain ⟨k, rfl⟩ := row_addr hU (by omega)
      obtain ⟨i, p, kk, f⟩ := t
      have x0 : w.cell? ⟨g, j * 4, none⟩ = some (.int .i64 i) := cell_n hV (waCs_at L j 0 _ _ ht rfl)
      have x1 : w.cell? ⟨g, j * 4 + 1, none⟩ = some (.string p) := cell_n hV (waCs_at L j 1 _ _ ht rfl)
      have x2 : w.cell? ⟨g, j * 4 + 2, none⟩ = some (.int .i64 kk) := cell_n hV (waCs_at L j 2 _ _ ht rfl)
      have x3 : w.cell? ⟨g, j * 4 + 3, none⟩ = some (.int .i64 f) := cell_n hV (waCs_at L j 3 _ _ ht rfl)
      have y0 : w.cell? ⟨k, j * 4, none⟩ = some (.int .i64 i) := cell_n hU (waCs_at L j 0 _ _ ht rfl)
      have y1 : w.cell? ⟨k, j * 4 + 1, none⟩ = some (.string p) := cell_n hU (waCs_at L j 1 _ _ ht rfl)
      have y2 : w.cell? ⟨k, j * 4 + 2, none⟩ = some (.int .i64 kk) := cell_n hU (waCs_at L j 2 _ _ ht rfl)
      have y3 : w.cell? ⟨k, j * 4 + 3, none⟩ = some (.int .i64 f) := cell_n hU (waCs_at L j 3 _ _ ht rfl)
      clear ht hV hU
      go_wp2_with fail
      go_quiet (fail)
      go_wp2_with fail
      go_roundw
      case rel => exact ⟨j + 1, _, by go_num, by omega, rfl⟩
      case measure => simp [intOf]; omega
    · have hge : ¬ ((j : Int) < (m : Int)) := by omega
      go_wp2_with fail
      go_ret
      exact ⟨rfl, q, rfl⟩
/-- Asked k times whole, and then i more. -/
def MF {α : Type} (F : List α) (k i : Nat) : List α := (List.replicate k F).flatten ++ F.take i
theorem MF_zero {α : Type} (F : List α) : MF F 0 0 = [] := by simp [MF]
theorem MF_len {α : Type} (F : List α) (k i : Nat) (hi : i ≤ F.length) : (MF F k i).length = k * F.length + i := by
  unfold MF
  rw [List.length_append, List.length_flatten, List.map_replicate, List.sum_replicate_nat, List.length_take]
  omega
theorem MF_next {α : Type} {F : List α} {i : Nat} {x : α} (k : Nat) (h : F[i]? = some x) : MF F k (i + 1) = MF F k i ++ [x] := by
  unfold MF
  rw [take_atX h, List.append_assoc]
theorem MF_end {α : Type} (F : List α) (k : Nat) : MF F k F.length = MF F (k + 1) 0 := by
  unfold MF
  rw [List.take_length, List.take_zero, List.append_nil, List.replicate_succ', List.flatten_append]
  simp
theorem MF_two {α : Type} (F : List α) : MF F 2 0 = F ++ F := by simp [MF, List.replicate]
theorem MF_at {α : Type} {F : List α} {j : Nat} (h : j < 2 * F.length) : (MF F 2 0)[j]? = F[j % F.length]? := by
  rw [MF_two]
  by_cases h1 : j < F.length
  · rw [List.getElem?_append_left h1, Nat.mod_eq_of_lt h1]
  · rw [List.getElem?_append_right (by omega), Nat.mod_eq_sub_mod (by omega), Nat.mod_eq_of_lt (by omega)]
abbrev TL (Ms : List (List Tg)) : List (List (El 2)) := Ms.map (fun l => l.map elT)
abbrev WL (Gs : List (List Wa)) : List (List (El 4)) := Gs.map (fun l => l.map elW)
/-- Between two asks. -/
def Qn (V w : World) (B : Nat) (tv wv : Value) (Ms : List (List Tg)) (Gs : List (List Wa)) : Prop :=
  ∃ hv hn us ms cs ds, Ak V w B hv hn us ms (TL Ms) (WL Gs) tv wv cs ds (TL Ms) (WL Gs)
theorem Qn.start (V : World) : Qn V (V.alloc (.cells #[.slice none 0 0, .slice none 0 0, .slice none 0 0, .slice none 0 0] 60)) V.heap.size (.slice none 0 0) (.slice none 0 0) [] [] := by
  have hb : Below V.heap.size V (V.alloc (.cells #[.slice none 0 0, .slice none 0 0, .slice none 0 0, .slice none 0 0] 60)) := (Below.refl _ _).alloc (Nat.le_refl _) _
  have hB : ∀ j, BkB V.heap.size (.slice none 0 0) (.slice none 0 0) [] [] j → j = V.heap.size := by
    rintro j (hj | hj | hj | ⟨_, _, hj, _⟩ | ⟨_, _, hj, _⟩)
    · exact hj
    · cases hj
    · cases hj
    · simp at hj
    · simp at hj
  have hC : ∀ j, ¬ HfB (.slice none 0 0) [] j := by
    rintro j (hj | ⟨_, _, hj, _⟩)
    · cases hj
    · simp at hj
  exact ⟨.slice none 0 0, .slice none 0 0, [], [], [], [], ⟨⟨heap_alloc_new _ _, ⟨rfl, .inl ⟨rfl, rfl⟩⟩, ⟨rfl, .inl ⟨rfl, rfl⟩⟩, ⟨rfl, fun k u l hu => by simp at hu, fun i j u v b hu => by simp at hu⟩, ⟨rfl, fun k u l hu => by simp at hu, fun i j u v b hu => by simp at hu⟩⟩, Hf.none _ _ _ _, Hf.none _ _ _ _, fun j _ => hC j, fun j _ => hC j, fun j hj => by rw [hB j hj]; exact Nat.le_refl _, fun j hj => absurd hj (hC j), fun j hj => absurd hj (hC j), hb⟩⟩
/-- Changes in memory. -/
structure Cg where
  k : Int
  p : ByteArray
  d : ByteArray
  v : Int
abbrev Cg.cs (x : Cg) : List Value := [.int .i64 x.k, .string x.p, .string x.d, .int .i64 x.v]
def CsAt (w : World) (a : Option Addr) (L : List Cg) : Prop := L = [] ∨ ∃ b o, a = some ⟨b, o, none⟩ ∧ b < w.heap.size ∧ ∀ (j t : Nat) (x : Cg) (v : Value), L[j]? = some x → x.cs[t]? = some v → w.cell? ⟨b, o + (j * 4 + t), none⟩ = some v
theorem CsAt.below {w w' : World} {a : Option Addr} {L : List Cg} (h : CsAt w a L) (hb : Below w.heap.size w w') : CsAt w' a L := by
  rcases h with h | ⟨b, o, e, hl, hc⟩
  · exact .inl h
  · exact .inr ⟨b, o, e, Nat.lt_of_lt_of_le hl hb.size, fun j t x v hx hv => by rw [hb.cell (p := ⟨b, o + (j * 4 + t), none⟩) hl]; exact hc j t x v hx hv⟩
theorem CsAt.at {w : World} {a : Option Addr} {L : List Cg} (h : CsAt w a L) {j : Nat} {x : Cg} (hx : L[j]? = some x) : ∃ b o, a = some ⟨b, o, none⟩ ∧ w.cell? ⟨b, o + j * 4, none⟩ = some (.int .i64 x.k) ∧ w.cell? ⟨b, o + j * 4 + 1, none⟩ = some (.string x.p) ∧ w.cell? ⟨b, o + j * 4 + 2, none⟩ = some (.string x.d) ∧ w.cell? ⟨b, o + j * 4 + 3, none⟩ = some (.int .i64 x.v) := by
  rcases h with rfl | ⟨b, o, e, hl, hc⟩
  · simp at hx
  · exact ⟨b, o, e, hc j 0 x _ hx rfl, hc j 1 x _ hx rfl, hc j 2 x _ hx rfl, hc j 3 x _ hx rfl⟩
theorem CsAt.take {w : World} {a : Option Addr} {L : List Cg} (h : CsAt w a L) (n : Nat) : CsAt w a (L.take n) := by
  rcases h with rfl | ⟨b, o, e, hl, hc⟩
  · exact .inl (by simp)
  · refine .inr ⟨b, o, e, hl, fun j t x v hx hv => hc j t x v ?_ hv⟩
    rw [List.getElem?_take] at hx
    split at hx
    · exact hx
    · cases hx
end Go.Proofs.YtbblckcjedjbcaaGreatDoor.J
