/-
  tree: the document's lists are the program's.
-/
import Derived.Test.YtmbomdhhiioigaaGreatDoorTRefB
import Derived.Test.YtmbomdhhiioigaaGreatDoorTPartL
import Derived.Test.YtmbomdhhiioigaaGreatDoorTRefS
import Derived.Test.YtmbomdhhiioigaaGreatDoorTRefL
import Derived.Test.YtmbomdhhiioigaaGreatDoorTRefF
import Derived.Test.YtmbomdhhiioigaaGreatDoorTPlayM
namespace Go.Proofs.YtmbomdhhiioigaaGreatDoor
open Go.RowKit Go.Maps Go.WideShapes
set_option linter.unusedVariables false
set_option linter.unusedSimpArgs false

theorem upd_no {T : List Nd} {y : Nd} (h : ∀ x ∈ T, x.p ≠ y.p) : upd T y = T := by
  unfold upd
  conv => rhs; rw [← List.map_id T]
  apply List.map_congr_left
  intro x hx
  rw [if_neg (h x hx)]
  rfl
theorem erase_filter : ∀ {T : List Nd} {q : Nat} {u : Nd}, Srt T → T[q]? = some u → T.eraseIdx q = T.filter (fun z => decide (z.p ≠ u.p))
  | [], q, u, _, h => by simp at h
  | x :: r, 0, u, hs, h => by
    obtain rfl : x = u := by simpa using h
    obtain ⟨h1, h2⟩ := List.pairwise_cons.1 hs
    rw [List.eraseIdx_cons_zero, List.filter_cons, if_neg (by simp)]
    refine (List.filter_eq_self.2 (fun z hz => ?_)).symm
    have : z.p ≠ x.p := fun e => by
      have := h1 z hz
      rw [e, O_self] at this
      cases this
    simpa using this
  | x :: r, q + 1, u, hs, h => by
    obtain ⟨h1, h2⟩ := List.pairwise_cons.1 hs
    have hr : r[q]? = some u := by simpa using h
    have hne : x.p ≠ u.p := fun e => by
      have := h1 u (List.mem_of_getElem? hr)
      rw [e, O_self] at this
      cases this
    rw [List.eraseIdx_cons_succ, List.filter_cons, if_pos (by simpa using hne), erase_filter h2 hr]
theorem ins_erase : ∀ {T : List Nd} {q : Nat} {u y : Nd}, Srt T → T[q]? = some u → y.p = u.p → ins y (T.eraseIdx q) = upd T y
  | [], q, u, y, _, h, _ => by simp at h
  | x :: r, 0, u, y, hs, h, hy => by
    obtain rfl : x = u := by simpa using h
    obtain ⟨h1, h2⟩ := List.pairwise_cons.1 hs
    have hno : ∀ z ∈ r, z.p ≠ y.p := fun z hz e => by
      have := h1 z hz
      rw [e, hy, O_self] at this
      cases this
    have e1 : upd (x :: r) y = y :: upd r y := by simp [upd, hy.symm]
    rw [List.eraseIdx_cons_zero, e1, upd_no hno]
    cases r with
    | nil => rfl
    | cons z r' =>
      unfold ins
      rw [if_pos (by rw [hy]; exact h1 z List.mem_cons_self)]
  | x :: r, q + 1, u, y, hs, h, hy => by
    obtain ⟨h1, h2⟩ := List.pairwise_cons.1 hs
    have hr : r[q]? = some u := by simpa using h
    have hxu := h1 u (List.mem_of_getElem? hr)
    have hne : x.p ≠ y.p := fun e => by
      rw [e, hy, O_self] at hxu
      cases hxu
    have e1 : upd (x :: r) y = x :: upd r y := by simp [upd, hne]
    rw [List.eraseIdx_cons_succ, e1]
    unfold ins
    rw [if_neg, ins_erase h2 hr hy]
    rw [hy, O_anti x.p u.p, hxu]
    decide
theorem kidsR_eq {T : List Nd} (h : Inv T) {at' : ByteArray} (hp : (parse at').1 = 0) : kidsM T at' = kidsR T at' := by
  unfold kidsM kidsR
  congr 1
  apply List.filter_congr
  intro y hy
  have hyp := (h.nd y hy).1
  unfold kidP wF kidB
  rw [show (⟨(Nd.by y).toArray⟩ : ByteArray) = y.p from rfl]
  by_cases hr : y.p = pRt
  · have e1 : parC y.p = 47 := by rw [hr]; kernel_rfl
    have hc : childB at' y.p = false := by rw [hr]; rfl
    rw [e1]
    unfold covers cov
    rw [hc]
    simp
    intro _ _ _ h9
    unfold eqB at h9
    have h8 : y.p.toList = at'.toList := by simpa using h9
    rw [ByteArray.toList_eq, ByteArray.toList_eq] at h8
    exact ByteArray.ext (Array.ext' h8)
  · obtain ⟨xs, k, x, hxs, hl, _, _⟩ := names_of hyp hr
    have e1 := parC_zero hyp hr
    have e2 := par_of (x := x) hxs hl
    have hne : xs.isEmpty = false := by cases xs with | nil => simp at hl | cons _ _ => rfl
    have hless := par_less hyp hr
    by_cases hpa : parB y.p = at'
    · have h1 := kid_of_par hyp hp hr hpa
      rw [h1]
      have hne2 : y.p ≠ at' := fun e => by
        rw [hpa, ← e, O_self] at hless
        cases hless
      simp [hne2, e1, hpa]
    · have hc : childB at' y.p = false := by
        unfold childB
        rw [hxs]
        simp only [hne, hl, Nat.add_sub_cancel]
        rw [← e2]
        simp
        intro e
        rw [ByteArray.toList_eq, ByteArray.toList_eq] at e
        exact hpa (ByteArray.ext (Array.ext' e))
      unfold covers cov
      rw [hc]
      by_cases hya : y.p = at'
      · simp [hya, hpa]
        intro _
        rw [hya] at hpa
        exact hpa
      · have : eqB y.p at' = false := beq_ne hya
        rw [this]
        simp [hpa]

end Go.Proofs.YtmbomdhhiioigaaGreatDoor
namespace Go.Proofs.YtmbomdhhiioigaaGreatDoor
open Go.RowKit Go.Maps Go.WideShapes
set_option linter.unusedVariables false
set_option linter.unusedSimpArgs false

theorem refOne_any (a : Option Addr) (c : Nat) (T : List Nd) (s st : Int) (o : OpT) (w : World) (h : NdsAt w a T) (hi : Inv T) :
    Calls Tryz.prog 27 #[.slice a T.length c, .int .i64 s, .int .i64 st, opV o.k o.p o.d o.v o.f] w (OneE w (oneM T s st o)) := by
  obtain ⟨k, p, d, v, f⟩ := o
  have hT := hi.len
  show Calls _ _ #[.slice a T.length c, .int .i64 s, .int .i64 st, opV k p d v f] w _
  unfold oneM
  by_cases hm : malC s k p d f = 0
  · rw [if_neg (by simpa using hm)]
    obtain ⟨hk1, hk7, hp0, _, _⟩ := mal_ok hm
    have hk1 : 1 ≤ k := hk1
    have hk7 : k ≤ 7 := hk7
    by_cases h1 : k = 1
    · subst h1
      rw [if_pos rfl]
      exact ro_make a c T s st p d v f w h hT hm hi
    rw [if_neg h1]
    cases hf : fnd T p with
    | none =>
      show Calls _ _ _ _ (OneE w (40, T, zr, []))
      exact ro_40 a c T s st k p d v f w h hT hm (by omega) (fndI_none (fnd_none hf))
    | some u =>
      obtain ⟨q, hu, hq, _⟩ := fndI_fnd hf
      have hum := (fnd_some hf).1
      have hun := hi.nd u hum
      have hkid := kidsR_eq hi hun.1
      show Calls _ _ _ _ (OneE w (if misC k v u.v (kidsM T u.p) ≠ 0 then (misC k v u.v (kidsM T u.p), T, zr, []) else (0, restM T st ⟨k, p, d, v, f⟩ u)))
      rw [hkid]
      have hvc : ((v != -1) = false) ∨ ((v != -1) = true ∧ (v != u.v) = false) ∨ ((v != -1) = true ∧ (v != u.v) = true) := by
        by_cases h1 : v = -1
        · exact .inl (by simpa using h1)
        · by_cases h2 : v = u.v
          · exact .inr (.inl ⟨by simpa using h1, by simpa using h2⟩)
          · exact .inr (.inr ⟨by simpa using h1, by simpa using h2⟩)
      have hv0 : ((v != -1) = false ∨ (v != u.v) = false) → ¬ (v ≠ -1 ∧ v ≠ u.v) := fun h9 ⟨g1, g2⟩ => by
        rcases h9 with h9 | h9
        · exact g1 (by simpa using h9)
        · exact g2 (by simpa using h9)
      rcases (show k = 2 ∨ k = 3 ∨ k = 4 ∨ k = 5 ∨ k = 6 ∨ k = 7 by omega) with rfl | rfl | rfl | rfl | rfl | rfl
      · -- set
        rcases hvc with hv | ⟨hv, hv2⟩ | ⟨hv, hv2⟩
        · by_cases hx : 2147483647 ≤ u.v
          · have e : misC 2 v u.v (kidsR T u.p) = 46 := by unfold misC; rw [if_neg (fun g => hv0 (.inl hv) g.2), if_neg (by omega), if_pos ⟨rfl, hx⟩]
            rw [e]
            exact ro_46m a c T s st p d v f u q w h hT hm hq hu hv hx
          · have e : misC 2 v u.v (kidsR T u.p) = 0 := by unfold misC; rw [if_neg (fun g => hv0 (.inl hv) g.2), if_neg (by omega), if_neg (fun g => hx g.2)]
            rw [e, if_neg (by simp)]
            have h9 := ro_setm a c T s st p d v f u q w h hT hm hq hu hv (by omega) hun.2.2.1 hi.sml (by have := size_of_parse hun.1; omega)
            rw [ins_erase (y := ⟨u.p, d, u.v + 1, u.m, st, u.o, u.k⟩) hi.srt hq rfl] at h9
            exact h9
        · by_cases hx : 2147483647 ≤ u.v
          · have e : misC 2 v u.v (kidsR T u.p) = 46 := by unfold misC; rw [if_neg (fun g => hv0 (.inr hv2) g.2), if_neg (by omega), if_pos ⟨rfl, hx⟩]
            rw [e]
            exact ro_46e a c T s st p d v f u q w h hT hm hq hu hv hv2 hx
          · have e : misC 2 v u.v (kidsR T u.p) = 0 := by unfold misC; rw [if_neg (fun g => hv0 (.inr hv2) g.2), if_neg (by omega), if_neg (fun g => hx g.2)]
            rw [e, if_neg (by simp)]
            have h9 := ro_sete a c T s st p d v f u q w h hT hm hq hu hv hv2 (by omega) hun.2.2.1 hi.sml (by have := size_of_parse hun.1; omega)
            rw [ins_erase (y := ⟨u.p, d, u.v + 1, u.m, st, u.o, u.k⟩) hi.srt hq rfl] at h9
            exact h9
        · have e : misC 2 v u.v (kidsR T u.p) = 42 := by unfold misC; rw [if_pos ⟨.inl rfl, by simpa using hv, by simpa using hv2⟩]
          rw [e]
          exact ro_42 a c T s st 2 p d v f u q w h hT hm (by omega) hq hu hv hv2
      · -- drop
        rcases hvc with hv | ⟨hv, hv2⟩ | ⟨hv, hv2⟩
        · by_cases hx : kidsR T u.p = []
          · have e : misC 3 v u.v (kidsR T u.p) = 0 := by unfold misC; rw [if_neg (fun g => hv0 (.inl hv) g.2), if_neg (fun g => g.2 hx), if_neg (by omega)]
            rw [e, if_neg (by simp)]
            have h9 := ro_dropm a c T s st p d v f u q w h hT hm hq hu hv hx
            rw [erase_filter hi.srt hq] at h9
            exact h9
          · have e : misC 3 v u.v (kidsR T u.p) = 43 := by unfold misC; rw [if_neg (fun g => hv0 (.inl hv) g.2), if_pos ⟨rfl, hx⟩]
            rw [e]
            exact ro_43m a c T s st p d v f u q w h hT hm hq hu hv hx
        · by_cases hx : kidsR T u.p = []
          · have e : misC 3 v u.v (kidsR T u.p) = 0 := by unfold misC; rw [if_neg (fun g => hv0 (.inr hv2) g.2), if_neg (fun g => g.2 hx), if_neg (by omega)]
            rw [e, if_neg (by simp)]
            have h9 := ro_drope a c T s st p d v f u q w h hT hm hq hu hv hv2 hx
            rw [erase_filter hi.srt hq] at h9
            exact h9
          · have e : misC 3 v u.v (kidsR T u.p) = 43 := by unfold misC; rw [if_neg (fun g => hv0 (.inr hv2) g.2), if_pos ⟨rfl, hx⟩]
            rw [e]
            exact ro_43e a c T s st p d v f u q w h hT hm hq hu hv hv2 hx
        · have e : misC 3 v u.v (kidsR T u.p) = 42 := by unfold misC; rw [if_pos ⟨.inr (.inl rfl), by simpa using hv, by simpa using hv2⟩]
          rw [e]
          exact ro_42 a c T s st 3 p d v f u q w h hT hm (by omega) hq hu hv hv2
      · -- check
        rcases hvc with hv | ⟨hv, hv2⟩ | ⟨hv, hv2⟩
        · have e : misC 4 v u.v (kidsR T u.p) = 0 := by unfold misC; rw [if_neg (fun g => hv0 (.inl hv) g.2), if_neg (by omega), if_neg (by omega)]
          rw [e, if_neg (by simp)]
          exact ro_look4m a c T s st p d v f u q w h hT hm hq hu hv
        · have e : misC 4 v u.v (kidsR T u.p) = 0 := by unfold misC; rw [if_neg (fun g => hv0 (.inr hv2) g.2), if_neg (by omega), if_neg (by omega)]
          rw [e, if_neg (by simp)]
          exact ro_look4e a c T s st p d v f u q w h hT hm hq hu hv hv2
        · have e : misC 4 v u.v (kidsR T u.p) = 42 := by unfold misC; rw [if_pos ⟨.inr (.inr rfl), by simpa using hv, by simpa using hv2⟩]
          rw [e]
          exact ro_42 a c T s st 4 p d v f u q w h hT hm (by omega) hq hu hv hv2
      · have e : misC 5 v u.v (kidsR T u.p) = 0 := by unfold misC; rw [if_neg (by omega), if_neg (by omega), if_neg (by omega)]
        rw [e, if_neg (by simp)]
        exact ro_get a c T s st p d v f u q w h hT hm hq hu
      · have e : misC 6 v u.v (kidsR T u.p) = 0 := by unfold misC; rw [if_neg (by omega), if_neg (by omega), if_neg (by omega)]
        rw [e, if_neg (by simp)]
        exact ro_look6 a c T s st p d v f u q w h hT hm hq hu
      · have e : misC 7 v u.v (kidsR T u.p) = 0 := by unfold misC; rw [if_neg (by omega), if_neg (by omega), if_neg (by omega)]
        rw [e, if_neg (by simp)]
        have h9 := ro_list a c T s st p d v f u q w h hT hm hq hu
        rw [← hkid] at h9
        exact h9
  · rw [if_pos hm]
    exact ro_mal a c T s st k p d v f w h hT hm
end Go.Proofs.YtmbomdhhiioigaaGreatDoor
namespace Go.Proofs.YtmbomdhhiioigaaGreatDoor
open Go.RowKit Go.Maps Go.WideShapes
set_option linter.unusedVariables false
set_option linter.unusedSimpArgs false
attribute [local go_sem ↓] Go.wp_at_zero Go.wp_at_succ

theorem results_cct {P : Program} {fn : Func} {p1 p2 s3 : Tmp} {ty1 ty2 : TypeId} (h : fn.results = #[.cell p1 ty1, .cell p2 ty2, .tmp s3]) (tmps : Array Value) (w : World) (g1 g2 : Nat) (t1 t2 : TypeId) (cs1 cs2 : Array Value) (fr1 fr2 : Nat × Nat) (d1 d2 : TypeDesc) (v3 : Value)
    (hp1 : tmps.getD p1 undef = .pointer (some ⟨g1, 0, none⟩)) (hp2 : tmps.getD p2 undef = .pointer (some ⟨g2, 0, none⟩)) (h3 : tmps.getD s3 undef = v3) (hg1 : w.heap[g1]? = some (.cells cs1 t1 fr1)) (hg2 : w.heap[g2]? = some (.cells cs2 t2 fr2))
    (hu1 : P.underlying ty1 = some d1) (hd1 : (match d1 with | .struct _ | .array _ _ => true | _ => false) = true) (hi1 : (P.info? ty1).map (·.size) = some cs1.size)
    (hu2 : P.underlying ty2 = some d2) (hd2 : (match d2 with | .struct _ | .array _ _ => true | _ => false) = true) (hi2 : (P.info? ty2).map (·.size) = some cs2.size) :
    (results fn tmps).run P w = .ok (.tuple #[.agg cs1, .agg cs2, v3]) w := by
  have hp1' : tmps[p1]?.getD undef = .pointer (some ⟨g1, 0, none⟩) := by simpa using hp1
  have hp2' : tmps[p2]?.getD undef = .pointer (some ⟨g2, 0, none⟩) := by simpa using hp2
  subst h3
  simp [results, h, hp1', hp2', asAddr, run_loadVar_row w g1 t1 ty1 cs1 fr1 d1 hg1 hu1 hd1 hi1, run_loadVar_row w g2 t2 ty2 cs2 fr2 d2 hg2 hu2 hd2 hi2]

/-- The document's results, with where the lists of names lie. -/
structure RsD (w : World) (B : Nat) (rv : Value) (L : List RsT) : Prop where
  row : w.ownsRow B 77 7 rv L.length (L.flatMap RsT.cs)
  kids : ∀ x ∈ L, w.ownsRow 0 9 1 (.slice x.a x.n x.c) x.r.kids.length (x.r.kids.map Value.string)
theorem RsD.nil (w : World) (B : Nat) : RsD w B (.slice none 0 0) [] := ⟨World.ownsRow_nil _ _ _ _, fun x hx => by cases hx⟩
theorem RsD.below {w w' : World} {B : Nat} {rv : Value} {L : List RsT} (h : RsD w B rv L) (hb : Below w.heap.size w w') : RsD w' B rv L :=
  ⟨owns_chg h.row (Chg.of_below hb (fun _ => False)) (fun _ _ => id), fun x hx => owns_chg (h.kids x hx) (Chg.of_below hb (fun _ => False)) (fun _ _ => id)⟩
theorem RsD.chg {w w' : World} {B : Nat} {rv : Value} {L : List RsT} {S : Nat → Prop} (h : RsD w B rv L) (hc : Chg w w' S) (hs : ∀ k, S k → ∀ cur, w.heap[k]? ≠ some (.cells cur 77 (0, 0)) ∧ w.heap[k]? ≠ some (.cells cur 9 (0, 0))) : RsD w' B rv L :=
  ⟨owns_chg h.row hc (fun k hk e => by
    obtain ⟨cur, hcur⟩ := owns_kind h.row hk
    exact (hs k e cur).1 hcur), fun x hx => owns_chg (h.kids x hx) hc (fun k hk e => by
    obtain ⟨cur, hcur⟩ := owns_kind (h.kids x hx) hk
    exact (hs k e cur).2 hcur)⟩
theorem NdsAt.chg {w w' : World} {a : Option Addr} {T : List Nd} {S : Nat → Prop} (h : NdsAt w a T) (hc : Chg w w' S) (hs : ∀ k, S k → ∀ cur, w.heap[k]? ≠ Option.some (.cells cur 69 (0, 0))) : NdsAt w' a T := fun i x hx => by
  obtain ⟨b, f, ha, hlt, ⟨cur, hk⟩, hcs⟩ := h i x hx
  have e := hc.block b hlt (fun e => hs b e cur hk)
  exact ⟨b, f, ha, Nat.lt_of_lt_of_le hlt hc.size, ⟨cur, by rw [e]; exact hk⟩, fun j v hv => by rw [World.cell?_of_block e]; exact hcs j v hv⟩
theorem owns_low {w : World} {B B' t s n : Nat} {v : Value} {xs : List Value} (h : w.ownsRow B t s v n xs) (hB : B' ≤ B) : w.ownsRow B' t s v n xs :=
  ⟨h.1, h.2.imp id (fun ⟨g, cap, cur, h1, h2, r⟩ => ⟨g, cap, cur, h1, Nat.le_trans hB h2, r⟩)⟩
theorem RsD.at {w : World} {B : Nat} {rv : Value} {L : List RsT} (h : RsD w B rv L) : RsAt w 0 rv L.length L :=
  ⟨by
    rw [Nat.sub_self]
    have e : Fa.fl (L.map RsT.el ++ List.replicate 0 zEl) = L.flatMap RsT.cs := by
      show (L.map RsT.el ++ []).flatMap (fun e : Fa.El 7 => e.1) = _
      rw [List.append_nil, List.flatMap_map]
      rfl
    rw [e]
    exact owns_low h.row (Nat.zero_le _), Nat.le_refl _, h.kids⟩
theorem chs_cells {w : World} {b f : Nat} {l : List ChT} (h : ChsAt w (some ⟨b, f, none⟩) l) {i : Nat} {x : ChT} (hx : l[i]? = some x) : b < w.heap.size ∧ w.cell? ⟨b, f + i * 4, none⟩ = some (.int .i64 x.k) ∧ w.cell? ⟨b, f + i * 4 + 1, none⟩ = some (.string x.p) ∧ w.cell? ⟨b, f + i * 4 + 2, none⟩ = some (.string x.d) ∧ w.cell? ⟨b, f + i * 4 + 3, none⟩ = some (.int .i64 x.v) := by
  obtain ⟨b', f', e, hl, _, hc⟩ := h i x hx
  simp only [Option.some.injEq, Addr.mk.injEq, and_true] at e
  obtain ⟨rfl, rfl⟩ := e
  have h0 := hc 0 _ rfl
  rw [Nat.add_zero] at h0
  exact ⟨hl, h0, hc 1 _ rfl, hc 2 _ rfl, hc 3 _ rfl⟩
theorem ChsAt.chg {w w' : World} {a : Option Addr} {l : List ChT} {S : Nat → Prop} (h : ChsAt w a l) (hc : Chg w w' S) (hs : ∀ k, S k → ∀ cur, w.heap[k]? ≠ some (.cells cur 80 (0, 0))) : ChsAt w' a l := fun i x hx => by
  obtain ⟨b, f, ha, hlt, ⟨cur, hk⟩, hcs⟩ := h i x hx
  have e := hc.block b hlt (fun e => hs b e cur hk)
  exact ⟨b, f, ha, Nat.lt_of_lt_of_le hlt hc.size, ⟨cur, by rw [e]; exact hk⟩, fun j v hv => by rw [World.cell?_of_block e]; exact hcs j v hv⟩
/-- What the document's Play leaves. -/
def PlayD (w : World) (st : Int) (M : PlayR) (e : Ending) (w' : World) : Prop :=
  ∃ a c rv ca cc L, e = .returned (.tuple #[rtV a M.T.length c, .agg #[.int .i64 st, .int .i64 M.code, .int .i64 M.at', rv], .slice ca M.C.length cc]) ∧ L.map RsT.r = M.R ∧ RsD w' w.heap.size rv L ∧ NdsAt w' a M.T ∧ w'.ownsRow w.heap.size 80 4 (.slice ca M.C.length cc) M.C.length (chCs M.C) ∧ Below w.heap.size w w'
theorem PlayD.no {w w' : World} {a : Option Addr} {T : List Nd} {N at' : Nat} {st : Int} (hN : T.length = N) (c : Nat) (code : Int) (h : NdsAt w a T) (hb : Below w.heap.size w w') :
    PlayD w st ⟨code, at', T, [], []⟩ (.returned (.tuple #[rtV a N c, .agg #[.int .i64 st, .int .i64 code, .int .i64 at', .slice none 0 0], .slice none 0 0])) w' :=
  ⟨a, c, .slice none 0 0, none, 0, [], by rw [hN]; rfl, rfl, RsD.nil _ _, h.below hb, World.ownsRow_nil _ _ _ _, hb⟩
/-- The document's request, between two ops. -/
structure PlS (w1 wr : World) (B rb : Nat) (st : Int) (la : Option Addr) (T : List Nd) (cv : Value) (C : List ChT) (rv : Value) (L : List RsT) : Prop where
  nds : NdsAt wr la T
  ch : wr.ownsRow B 80 4 cv C.length (chCs C)
  box : wr.heap[rb]? = some (.cells #[.int .i64 st, .int .i64 0, .int .i64 0, rv] 51 (0, 0))
  rs : RsD wr B rv L
  low : Below w1.heap.size w1 wr
  base : w1.heap.size ≤ rb
  lt : rb < B
  hB : B ≤ wr.heap.size
theorem PlS.below {w1 wr w' : World} {B rb : Nat} {st : Int} {la : Option Addr} {T : List Nd} {cv rv : Value} {C : List ChT} {L : List RsT} (h : PlS w1 wr B rb st la T cv C rv L) (hb : Below wr.heap.size wr w') : PlS w1 w' B rb st la T cv C rv L :=
  ⟨h.nds.below hb, owns_chg h.ch (Chg.of_below hb (fun _ => False)) (fun _ _ => id), kept_block hb h.box, h.rs.below hb, trans2 h.low hb, h.base, h.lt, Nat.le_trans h.hB hb.size⟩
theorem PlS.turn {w1 wr : World} {B rb : Nat} {st : Int} {la la' : Option Addr} {T T' : List Nd} {cv rv : Value} {C : List ChT} {L : List RsT} (h : PlS w1 wr B rb st la T cv C rv L) (hn : NdsAt wr la' T') : PlS w1 wr B rb st la' T' cv C rv L := ⟨hn, h.ch, h.box, h.rs, h.low, h.base, h.lt, h.hB⟩
/-- One more result. -/
theorem PlS.res {w1 w4 w5 : World} {B rb g cap N : Nat} {st : Int} {la : Option Addr} {T : List Nd} {cv rv : Value} {C : List ChT} {L : List RsT} {o : Obj} (h : PlS w1 w4 B rb st la T cv C rv L) (x : RsT) (hN : L.length = N) (hk : w4.ownsRow 0 9 1 (.slice x.a x.n x.c) x.r.kids.length (x.r.kids.map Value.string))
    (hown : w5.ownsRow B 77 7 (.slice (some ⟨g, 0, none⟩) (N + 1) cap) (N + 1) (L.flatMap RsT.cs ++ x.cs)) (hgrow : (w4.alloc o).grownBy w5 rv.ownBlock) :
    w5.heap[rb]? = some (.cells #[.int .i64 st, .int .i64 0, .int .i64 0, rv] 51 (0, 0)) ∧ PlS w1 (w5.setCell ⟨rb, 3, none⟩ (.slice (some ⟨g, 0, none⟩) (N + 1) cap)) B rb st la T cv C (.slice (some ⟨g, 0, none⟩) (N + 1) cap) (L ++ [x]) ∧ Chg w4 (w5.setCell ⟨rb, 3, none⟩ (.slice (some ⟨g, 0, none⟩) (N + 1) cap)) (fun k => rv.ownBlock = some k ∨ k = rb) := by
  have hc5 : Chg w4 w5 (fun k => rv.ownBlock = some k) := (Chg.alloc w4 o _).trans (Chg.grown hgrow)
  have hkind : ∀ k, rv.ownBlock = some k → ∃ cur, w4.heap[k]? = some (.cells cur 77 (0, 0)) := fun k hk' => owns_kind h.rs.row hk'
  have hb5 : w5.heap[rb]? = some (.cells #[.int .i64 st, .int .i64 0, .int .i64 0, rv] 51 (0, 0)) := kept_chg hc5 h.box (fun e => by
    obtain ⟨cur, hcur⟩ := hkind rb e
    rw [h.box] at hcur
    simp at hcur)
  have hC : Chg w4 (w5.setCell ⟨rb, 3, none⟩ (.slice (some ⟨g, 0, none⟩) (N + 1) cap)) (fun k => rv.ownBlock = some k ∨ k = rb) := (hc5.mono (fun _ _ e => .inl e)).trans ((Chg.set _ _ _).mono (fun _ _ e => .inr e))
  have hS : ∀ k, (rv.ownBlock = some k ∨ k = rb) → (∃ cur, w4.heap[k]? = some (.cells cur 77 (0, 0))) ∨ w4.heap[k]? = some (.cells #[.int .i64 st, .int .i64 0, .int .i64 0, rv] 51 (0, 0)) := fun k e => by
    rcases e with e | rfl
    · exact .inl (hkind k e)
    · exact .inr h.box
  have hrowK : ∀ {B' t sz m : Nat} {v : Value} {xs : List Value}, w4.ownsRow B' t sz v m xs → t ≠ 77 → t ≠ 51 → (w5.setCell ⟨rb, 3, none⟩ (.slice (some ⟨g, 0, none⟩) (N + 1) cap)).ownsRow B' t sz v m xs := fun hr h1 h2 => owns_chg hr hC (fun k hk' e => by
    obtain ⟨cur, hcur⟩ := owns_kind hr hk'
    rcases hS k e with ⟨cur', h9⟩ | h9
    · rw [hcur] at h9
      simp at h9
      exact h1 h9.2
    · rw [hcur] at h9
      simp at h9
      exact h2 h9.2)
  refine ⟨hb5, ⟨h.nds.chg hC (fun k e cur hcur => ?_), hrowK h.ch (by decide) (by decide), same_blk hb5 rfl, ⟨?_, fun y hy => ?_⟩, ?_, h.base, h.lt, Nat.le_trans h.hB hC.size⟩, hC⟩
  · rcases hS k e with ⟨cur', h9⟩ | h9
    · rw [hcur] at h9
      simp at h9
    · rw [hcur] at h9
      simp at h9
  · have h9 : (w5.setCell ⟨rb, 3, none⟩ (.slice (some ⟨g, 0, none⟩) (N + 1) cap)).ownsRow B 77 7 (.slice (some ⟨g, 0, none⟩) (N + 1) cap) (N + 1) (L.flatMap RsT.cs ++ x.cs) := owns_chg hown (Chg.set _ _ _) (fun k hk' e => by
      have := (hown.lt k hk').1
      have e' : k = rb := e
      have := h.lt
      omega)
    rw [List.length_append, hN, List.flatMap_append]
    simpa using h9
  · rcases List.mem_append.1 hy with hy | hy
    · exact hrowK (h.rs.kids y hy) (by decide) (by decide)
    · obtain rfl := List.mem_singleton.1 hy
      exact hrowK hk (by decide) (by decide)
  · refine h.low.trans (hC.below h.low.size (fun k _ e => ?_))
    rcases e with e | rfl
    · have := (h.rs.row.lt k e).1
      have := h.lt
      have := h.base
      omega
    · exact h.base
/-- One more change. -/
theorem PlS.chs {w1 w4 w5 : World} {B rb g cap N : Nat} {st : Int} {la : Option Addr} {T : List Nd} {cv rv : Value} {C : List ChT} {L : List RsT} {o : Obj} (h : PlS w1 w4 B rb st la T cv C rv L) (x : ChT) (hN : C.length = N)
    (hown : w5.ownsRow B 80 4 (.slice (some ⟨g, 0, none⟩) (N + 1) cap) (N + 1) (chCs C ++ x.cells)) (hgrow : (w4.alloc o).grownBy w5 cv.ownBlock) :
    PlS w1 w5 B rb st la T (.slice (some ⟨g, 0, none⟩) (N + 1) cap) (C ++ [x]) rv L := by
  have hc5 : Chg w4 w5 (fun k => cv.ownBlock = some k) := (Chg.alloc w4 o _).trans (Chg.grown hgrow)
  have hkind : ∀ k, cv.ownBlock = some k → ∃ cur, w4.heap[k]? = some (.cells cur 80 (0, 0)) := fun k hk' => owns_kind h.ch hk'
  refine ⟨h.nds.chg hc5 (fun k e cur hcur => ?_), ?_, kept_chg hc5 h.box (fun e => ?_), h.rs.chg hc5 (fun k e cur => ?_), ?_, h.base, h.lt, Nat.le_trans h.hB hc5.size⟩
  · obtain ⟨cur', h9⟩ := hkind k e
    rw [hcur] at h9
    simp at h9
  · rw [List.length_append, hN]
    simpa [chCs] using hown
  · obtain ⟨cur', h9⟩ := hkind rb e
    rw [h.box] at h9
    simp at h9
  · obtain ⟨cur', h9⟩ := hkind k e
    rw [h9]
    constructor <;> simp
  · refine h.low.trans (hc5.below h.low.size (fun k _ e => ?_))
    have := (h.ch.lt k e).1
    have := h.lt
    have := h.base
    omega
end Go.Proofs.YtmbomdhhiioigaaGreatDoor
namespace Go.Proofs.YtmbomdhhiioigaaGreatDoor
open Go.RowKit Go.Maps Go.WideShapes
set_option linter.unusedVariables false
set_option linter.unusedSimpArgs false
attribute [local go_sem ↓] Go.wp_at_zero Go.wp_at_succ

set_option maxHeartbeats 8000000 in
set_option maxRecDepth 100000 in
theorem refPlay_bad (a : Option Addr) (c n : Nat) (T : List Nd) (s st : Int) (oa : Option Addr) (oc : Nat) (w : World) (h : NdsAt w a T) (hne : T ≠ []) (hm : mayC s st n ≠ 0) :
    Calls Tryz.prog 14 #[rtV a T.length c, .int .i64 s, .int .i64 st, .slice oa n oc] w (PlayD w st ⟨mayC s st n, 0, T, [], []⟩) := by
  have H : Hid (NdsAt w a T) := h
  have hl : T.length ≠ 0 := fun e => hne (List.length_eq_zero_iff.1 e)
  obtain ⟨N, hN⟩ : ∃ N, T.length = N := ⟨_, rfl⟩
  have HN : Hid (T.length = N) := hN
  rw [hN] at hl ⊢
  have hn0 : ((N : Int) == 0) = false := by have : ¬ (N : Int) = 0 := by omega
                                            simpa using this
  clear h hne hN hl
  have hcase : (4 < n ∧ mayC s st n = 2) ∨ (¬ 4 < n ∧ mayC s st n = 3 ∧ (s < 0 ∨ (¬ s < 0 ∧ 2147483647 < s) ∨ (¬ s < 0 ∧ ¬ 2147483647 < s ∧ st < 1) ∨ (¬ s < 0 ∧ ¬ 2147483647 < s ∧ ¬ st < 1 ∧ 2147483647 < st))) ∨ (n = 0 ∧ mayC s st n = 48 ∧ ¬ s < 0 ∧ ¬ 2147483647 < s ∧ ¬ st < 1 ∧ ¬ 2147483647 < st) := by
    unfold mayC at hm ⊢
    by_cases h4 : 4 < n
    · exact .inl ⟨h4, if_pos h4⟩
    · by_cases hb : s < 0 ∨ 2147483647 < s ∨ st < 1 ∨ 2147483647 < st
      · exact .inr (.inl ⟨h4, by rw [if_neg h4, if_pos hb], by omega⟩)
      · by_cases h0 : n = 0
        · exact .inr (.inr ⟨h0, by rw [if_neg h4, if_neg hb, if_pos h0], by omega, by omega, by omega, by omega⟩)
        · rw [if_neg h4, if_neg hb, if_neg h0] at hm
          exact absurd rfl hm
  clear hm
  obtain ⟨code, hcode⟩ : ∃ code, mayC s st n = code := ⟨_, rfl⟩
  rw [hcode] at hcase ⊢
  clear hcode
  go_enter Tryz.func14, Tryz.ntmps14
  go_upto_region 1 with fail
  obtain ⟨w1, hw1⟩ : ∃ y, ((w.alloc (.cells #[.slice a N c] 26)).alloc (.cells #[.slice none 0 0] 26)).alloc (.cells #[.int .i64 0, .int .i64 0, .int .i64 0, .slice none 0 0] 51) = y := ⟨_, rfl⟩
  obtain ⟨tb, htb⟩ : ∃ y, w.heap.size = y := ⟨_, rfl⟩
  have HB1 : Hid (Below w.heap.size w w1) := by rw [← hw1]; exact (((Below.refl _ _).alloc (Nat.le_refl _) _).alloc (by simp) _).alloc (by simp; omega) _
  have HX1 : Hid (w1.heap[tb]? = some (.cells #[.slice a N c] 26 (0, 0))) := by rw [← hw1, ← htb]; exact heap_alloc_old (heap_alloc_old (heap_alloc_new _ _))
  have HY1 : Hid (w1.heap[tb + 1]? = some (.cells #[.slice none 0 0] 26 (0, 0))) := by rw [← hw1, ← htb]; exact heap_alloc_old (heap_alloc_new' (by simp))
  have HZ1 : Hid (w1.heap[tb + 1 + 1]? = some (.cells #[.int .i64 0, .int .i64 0, .int .i64 0, .slice none 0 0] 51 (0, 0))) := by rw [← hw1, ← htb]; exact heap_alloc_new' (by simp)
  have HTB : Hid (w.heap.size = tb) := htb
  rw [hw1, htb]
  clear hw1 htb
  have t0 := cells_1 HX1.out
  have y0 := cells_1 HY1.out
  have yf := free_1 HY1.out
  obtain ⟨z0, z1, z2, z3⟩ := cells_4 HZ1.out
  have zf := free_4 HZ1.out
  rcases hcase with ⟨h4, rfl⟩ | ⟨h4, rfl, c1 | ⟨c1, c2⟩ | ⟨c1, c2, c3⟩ | ⟨c1, c2, c3, c4⟩⟩ | ⟨rfl, rfl, c1, c2, c3, c4⟩
  · have q : (4 : Int) < (n : Int) := by omega
    go_wp2_with fail
    exact bodyPost_ret (results_cct rfl _ _ (tb + 1) (tb + 1 + 1) 26 51 #[.slice a N c] #[.int .i64 st, .int .i64 2, .int .i64 0, .slice none 0 0] (0, 0) (0, 0) _ _ (.slice none 0 0) rfl rfl rfl (fillO_4 (fill_1 HY1.out) (by omega)) (fill_4 (other_blk HZ1.out (by omega))) Tryz.underlying26 rfl (by kernel_rfl) Tryz.underlying51 rfl (by kernel_rfl)) rfl (PlayD.no HN.out c 2 H.out (fillB_4 (HB1.out.setCell (by rw [HTB.out]; show tb ≤ tb + 1; omega) _) (by rw [HTB.out]; omega)))
  · have q : ¬ (4 : Int) < (n : Int) := by omega
    go_wp2_with fail
    exact bodyPost_ret (results_cct rfl _ _ (tb + 1) (tb + 1 + 1) 26 51 #[.slice a N c] #[.int .i64 st, .int .i64 3, .int .i64 0, .slice none 0 0] (0, 0) (0, 0) _ _ (.slice none 0 0) rfl rfl rfl (fillO_4 (fill_1 HY1.out) (by omega)) (fill_4 (other_blk HZ1.out (by omega))) Tryz.underlying26 rfl (by kernel_rfl) Tryz.underlying51 rfl (by kernel_rfl)) rfl (PlayD.no HN.out c 3 H.out (fillB_4 (HB1.out.setCell (by rw [HTB.out]; show tb ≤ tb + 1; omega) _) (by rw [HTB.out]; omega)))
  · have q : ¬ (4 : Int) < (n : Int) := by omega
    go_wp2_with fail
    exact bodyPost_ret (results_cct rfl _ _ (tb + 1) (tb + 1 + 1) 26 51 #[.slice a N c] #[.int .i64 st, .int .i64 3, .int .i64 0, .slice none 0 0] (0, 0) (0, 0) _ _ (.slice none 0 0) rfl rfl rfl (fillO_4 (fill_1 HY1.out) (by omega)) (fill_4 (other_blk HZ1.out (by omega))) Tryz.underlying26 rfl (by kernel_rfl) Tryz.underlying51 rfl (by kernel_rfl)) rfl (PlayD.no HN.out c 3 H.out (fillB_4 (HB1.out.setCell (by rw [HTB.out]; show tb ≤ tb + 1; omega) _) (by rw [HTB.out]; omega)))
  · have q : ¬ (4 : Int) < (n : Int) := by omega
    go_wp2_with fail
    exact bodyPost_ret (results_cct rfl _ _ (tb + 1) (tb + 1 + 1) 26 51 #[.slice a N c] #[.int .i64 st, .int .i64 3, .int .i64 0, .slice none 0 0] (0, 0) (0, 0) _ _ (.slice none 0 0) rfl rfl rfl (fillO_4 (fill_1 HY1.out) (by omega)) (fill_4 (other_blk HZ1.out (by omega))) Tryz.underlying26 rfl (by kernel_rfl) Tryz.underlying51 rfl (by kernel_rfl)) rfl (PlayD.no HN.out c 3 H.out (fillB_4 (HB1.out.setCell (by rw [HTB.out]; show tb ≤ tb + 1; omega) _) (by rw [HTB.out]; omega)))
  · have q : ¬ (4 : Int) < (n : Int) := by omega
    go_wp2_with fail
    exact bodyPost_ret (results_cct rfl _ _ (tb + 1) (tb + 1 + 1) 26 51 #[.slice a N c] #[.int .i64 st, .int .i64 3, .int .i64 0, .slice none 0 0] (0, 0) (0, 0) _ _ (.slice none 0 0) rfl rfl rfl (fillO_4 (fill_1 HY1.out) (by omega)) (fill_4 (other_blk HZ1.out (by omega))) Tryz.underlying26 rfl (by kernel_rfl) Tryz.underlying51 rfl (by kernel_rfl)) rfl (PlayD.no HN.out c 3 H.out (fillB_4 (HB1.out.setCell (by rw [HTB.out]; show tb ≤ tb + 1; omega) _) (by rw [HTB.out]; omega)))
  · go_wp2_with fail
    exact bodyPost_ret (results_cct rfl _ _ (tb + 1) (tb + 1 + 1) 26 51 #[.slice a N c] #[.int .i64 st, .int .i64 48, .int .i64 0, .slice none 0 0] (0, 0) (0, 0) _ _ (.slice none 0 0) rfl rfl rfl (fillO_4 (fill_1 HY1.out) (by omega)) (fill_4 (other_blk HZ1.out (by omega))) Tryz.underlying26 rfl (by kernel_rfl) Tryz.underlying51 rfl (by kernel_rfl)) rfl (PlayD.no HN.out c 48 H.out (fillB_4 (HB1.out.setCell (by rw [HTB.out]; show tb ≤ tb + 1; omega) _) (by rw [HTB.out]; omega)))
end Go.Proofs.YtmbomdhhiioigaaGreatDoor
