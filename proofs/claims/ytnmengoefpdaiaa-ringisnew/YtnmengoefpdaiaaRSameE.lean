/-
  the law's own comparisons: entries.
-/
import Derived.Test.YtnmengoefpdaiaaRSame
namespace Go.Proofs.Ytnmengoefpdaiaa
open Go.RowKit Classical
set_option linter.unusedVariables false
set_option linter.unusedSimpArgs false

set_option maxHeartbeats 3200000 in
set_option maxRecDepth 100000 in
theorem same_0 (s v k se rq s' v' k' se' rq' : Int) (a a' : Option Addr) (c c' n n' : Nat) (w : World) (h : (s : Int) ≠ s') :
    Calls Try.prog 26 #[.agg #[.int .i64 s, .int .i64 v, .int .i64 k, .int .i64 se, .int .i64 rq, .slice a n c], .agg #[.int .i64 s', .int .i64 v', .int .i64 k', .int .i64 se', .int .i64 rq', .slice a' n' c']] w fun e w' => e = .returned (.bool (false)) ∧ Below w.heap.size w w' := by
  have hd : (s == s') = false := by simpa using h
  go_enter Try.func26, Try.ntmps26
  go_wp2_with fail
  go_ret
  exact ⟨rfl, ((Below.refl _ _).alloc (Nat.le_refl _) _).alloc (by simp) _⟩
set_option maxHeartbeats 3200000 in
set_option maxRecDepth 100000 in
theorem same_1 (s v k se rq v' k' se' rq' : Int) (a a' : Option Addr) (c c' n n' : Nat) (w : World) (h : (v : Int) ≠ v') :
    Calls Try.prog 26 #[.agg #[.int .i64 s, .int .i64 v, .int .i64 k, .int .i64 se, .int .i64 rq, .slice a n c], .agg #[.int .i64 s, .int .i64 v', .int .i64 k', .int .i64 se', .int .i64 rq', .slice a' n' c']] w fun e w' => e = .returned (.bool (false)) ∧ Below w.heap.size w w' := by
  have hd : (v == v') = false := by simpa using h
  go_enter Try.func26, Try.ntmps26
  go_wp2_with fail
  go_ret
  exact ⟨rfl, ((Below.refl _ _).alloc (Nat.le_refl _) _).alloc (by simp) _⟩
set_option maxHeartbeats 3200000 in
set_option maxRecDepth 100000 in
theorem same_2 (s v k se rq k' se' rq' : Int) (a a' : Option Addr) (c c' n n' : Nat) (w : World) (h : (k : Int) ≠ k') :
    Calls Try.prog 26 #[.agg #[.int .i64 s, .int .i64 v, .int .i64 k, .int .i64 se, .int .i64 rq, .slice a n c], .agg #[.int .i64 s, .int .i64 v, .int .i64 k', .int .i64 se', .int .i64 rq', .slice a' n' c']] w fun e w' => e = .returned (.bool (false)) ∧ Below w.heap.size w w' := by
  have hd : (k == k') = false := by simpa using h
  go_enter Try.func26, Try.ntmps26
  go_wp2_with fail
  go_ret
  exact ⟨rfl, ((Below.refl _ _).alloc (Nat.le_refl _) _).alloc (by simp) _⟩
set_option maxHeartbeats 3200000 in
set_option maxRecDepth 100000 in
theorem same_3 (s v k se rq se' rq' : Int) (a a' : Option Addr) (c c' n n' : Nat) (w : World) (h : (se : Int) ≠ se') :
    Calls Try.prog 26 #[.agg #[.int .i64 s, .int .i64 v, .int .i64 k, .int .i64 se, .int .i64 rq, .slice a n c], .agg #[.int .i64 s, .int .i64 v, .int .i64 k, .int .i64 se', .int .i64 rq', .slice a' n' c']] w fun e w' => e = .returned (.bool (false)) ∧ Below w.heap.size w w' := by
  have hd : (se == se') = false := by simpa using h
  go_enter Try.func26, Try.ntmps26
  go_wp2_with fail
  go_ret
  exact ⟨rfl, ((Below.refl _ _).alloc (Nat.le_refl _) _).alloc (by simp) _⟩
set_option maxHeartbeats 3200000 in
set_option maxRecDepth 100000 in
theorem same_4 (s v k se rq rq' : Int) (a a' : Option Addr) (c c' n n' : Nat) (w : World) (h : (rq : Int) ≠ rq') :
    Calls Try.prog 26 #[.agg #[.int .i64 s, .int .i64 v, .int .i64 k, .int .i64 se, .int .i64 rq, .slice a n c], .agg #[.int .i64 s, .int .i64 v, .int .i64 k, .int .i64 se, .int .i64 rq', .slice a' n' c']] w fun e w' => e = .returned (.bool (false)) ∧ Below w.heap.size w w' := by
  have hd : (rq == rq') = false := by simpa using h
  go_enter Try.func26, Try.ntmps26
  go_wp2_with fail
  go_ret
  exact ⟨rfl, ((Below.refl _ _).alloc (Nat.le_refl _) _).alloc (by simp) _⟩
set_option maxHeartbeats 3200000 in
set_option maxRecDepth 100000 in
theorem same_5 (s v k se rq : Int) (a a' : Option Addr) (c c' n n' : Nat) (l l' : List OpT) (w : World) (hs : Os w a l) (ht : Os w a' l') (hn : l.length = n) (hn' : l'.length = n') (hl : n ≤ maxLen) :
    Calls Try.prog 26 #[.agg #[.int .i64 s, .int .i64 v, .int .i64 k, .int .i64 se, .int .i64 rq, .slice a n c], .agg #[.int .i64 s, .int .i64 v, .int .i64 k, .int .i64 se, .int .i64 rq, .slice a' n' c']] w fun e w' => e = .returned (.bool (decide (l = l'))) ∧ Below w.heap.size w w' := by
  have HS : Hid (∀ w', Below w.heap.size w w' → _) := fun w' hb => sameOps_any a a' c c' n n' l l' w' (hs.below hb) (ht.below hb) hn hn' hl
  clear hs ht hn hn' hl
  go_enter Try.func26, Try.ntmps26
  go_wp2_with fail
  refine Calls.mono (HS.out _ (((Below.refl _ _).alloc (Nat.le_refl _) _).alloc (by simp) _)) ?_
  rintro e w1 ⟨rfl, hb⟩
  have HB : Hid (Below w.heap.size w w1) := trans2 (((Below.refl _ _).alloc (Nat.le_refl _) _).alloc (by simp) _) hb
  clear hb HS
  go_wp2_with fail
  go_ret
  exact ⟨rfl, HB.out⟩
/-- An entry that can be read. -/
structure Rd (w : World) (p : PEnt) : Prop where
  x : ∃ a c, p.x = .slice a p.e.ops.length c ∧ Os w a p.e.ops
  len : p.e.ops.length ≤ maxLen
theorem Rd.below {w w' : World} {p : PEnt} (h : Rd w p) (hb : Below w.heap.size w w') : Rd w' p := by
  obtain ⟨a, c, hx, ho⟩ := h.x
  exact ⟨⟨a, c, hx, ho.below hb⟩, h.len⟩
theorem ent_ext {e e' : EnT} (h0 : e.s = e'.s) (h1 : e.v = e'.v) (h2 : e.k = e'.k) (h3 : e.se = e'.se) (h4 : e.rq = e'.rq) (h5 : e.ops = e'.ops) : e = e' := by
  cases e; cases e'; simp_all
theorem same_any (p p' : PEnt) (w : World) (h : Rd w p) (h' : Rd w p') :
    Calls Try.prog 26 #[p.val, p'.val] w fun e w' => e = .returned (.bool (decide (p.e = p'.e))) ∧ Below w.heap.size w w' := by
  obtain ⟨⟨s, v, k, se, rq, l⟩, x⟩ := p
  obtain ⟨⟨s', v', k', se', rq', l'⟩, x'⟩ := p'
  obtain ⟨a, c, hx, ho⟩ := h.x
  obtain ⟨a', c', hx', ho'⟩ := h'.x
  have hl := h.len
  simp only at hx hx' ho ho' hl
  subst hx hx'
  by_cases h0 : s = s'
  · subst h0
    by_cases h1 : v = v'
    · subst h1
      by_cases h2 : k = k'
      · subst h2
        by_cases h3 : se = se'
        · subst h3
          by_cases h4 : rq = rq'
          · subst h4
            refine (same_5 s v k se rq a a' c c' l.length l'.length l l' w ho ho' rfl rfl hl).mono ?_
            rintro e w' ⟨rfl, hb⟩
            exact ⟨by congr 2; simp, hb⟩
          · rw [decide_eq_false (fun e => h4 (by injection e))]
            exact same_4 s v k se rq rq' a a' c c' _ _ w h4
        · rw [decide_eq_false (fun e => h3 (by injection e))]
          exact same_3 s v k se rq se' rq' a a' c c' _ _ w h3
      · rw [decide_eq_false (fun e => h2 (by injection e))]
        exact same_2 s v k se rq k' se' rq' a a' c c' _ _ w h2
    · rw [decide_eq_false (fun e => h1 (by injection e))]
      exact same_1 s v k se rq v' k' se' rq' a a' c c' _ _ w h1
  · rw [decide_eq_false (fun e => h0 (by injection e))]
    exact same_0 s v k se rq s' v' k' se' rq' a a' c c' _ _ w h0
/-- Entries that can be read. -/
structure EsAt (w : World) (a : Option Addr) (P : List PEnt) : Prop where
  ls : Ls PEnt.cells 6 w a P
  rd : ∀ p ∈ P, Rd w p
theorem EsAt.below {w w' : World} {a : Option Addr} {P : List PEnt} (h : EsAt w a P) (hb : Below w.heap.size w w') : EsAt w' a P := ⟨h.ls.below hb, fun p hp => (h.rd p hp).below hb⟩
theorem EsAt.at {w : World} {a : Option Addr} {P : List PEnt} (h : EsAt w a P) {i : Nat} {p : PEnt} (hi : P[i]? = some p) : ∃ b o, a = some ⟨b, o, none⟩ ∧ b < w.heap.size ∧ w.cell? ⟨b, o + i * 6, none⟩ = some (.int .i64 p.e.s) ∧ w.cell? ⟨b, o + i * 6 + 1, none⟩ = some (.int .i64 p.e.v) ∧ w.cell? ⟨b, o + i * 6 + 2, none⟩ = some (.int .i64 p.e.k) ∧ w.cell? ⟨b, o + i * 6 + 3, none⟩ = some (.int .i64 p.e.se) ∧ w.cell? ⟨b, o + i * 6 + 4, none⟩ = some (.int .i64 p.e.rq) ∧ w.cell? ⟨b, o + i * 6 + 5, none⟩ = some p.x := by
  rcases h.ls with rfl | ⟨b, o, ha, hlt, hs⟩
  · cases hi
  · exact ⟨b, o, ha, hlt, hs i p hi 0 _ rfl, hs i p hi 1 _ rfl, hs i p hi 2 _ rfl, hs i p hi 3 _ rfl, hs i p hi 4 _ rfl, hs i p hi 5 _ rfl⟩
theorem ents_form {w : World} {v : Value} {P : List PEnt} (h : EntsAt w v P) (hs : ∀ p ∈ P, p.e.ops.length ≤ maxLen) : ∃ a c, v = .slice a P.length c ∧ EsAt w a P := by
  obtain ⟨a, c, rfl, _⟩ := owns_form h.row
  refine ⟨a, c, rfl, ls_of_row pent_len h.row (by decide) rfl, fun p hp => ⟨?_, hs p hp⟩⟩
  obtain ⟨a', c', hx, _⟩ := owns_form (h.ops p hp)
  have ho := h.ops p hp
  rw [hx] at ho
  exact ⟨a', c', hx, os_of_own ho⟩
set_option maxHeartbeats 3200000 in
set_option maxRecDepth 100000 in
theorem sameAll_eq (a a' : Option Addr) (c c' n : Nat) (l l' : List PEnt) (w : World) (hs : EsAt w a l) (ht : EsAt w a' l') (hn : l.length = n) (hn' : l'.length = n) (hl : n ≤ maxLen) :
    Calls Try.prog 11 #[.slice a n c, .slice a' n c'] w fun e w' => e = .returned (.bool (decide (l.map (·.e) = l'.map (·.e)))) ∧ Below w.heap.size w w' := by
  unfold maxLen at hl
  have HS : Hid (EsAt w a l) := hs
  have HT : Hid (EsAt w a' l') := ht
  clear hs ht
  go_enter Try.func11, Try.ntmps11
  go_wp2_with fail
  go_loopw [5] (fun i wr => ∃ q : Nat, i = .int .i64 q ∧ q ≤ n ∧ Hid ((l.take q).map (·.e) = (l'.take q).map (·.e)) ∧ Hid (Below w.heap.size w wr)) (fun i _ => n - (intOf i).toNat)
  case atStart => exact ⟨0, rfl, Nat.zero_le _, rfl, Below.refl _ _⟩
  case round =>
    obtain ⟨q, rfl, hq, HK, HB⟩ := hrel
    by_cases hlt : q < n
    · obtain ⟨x, hx⟩ : ∃ x, l[q]? = some x := ⟨l[q], List.getElem?_eq_getElem (by omega)⟩
      obtain ⟨y, hy⟩ : ∃ y, l'[q]? = some y := ⟨l'[q]'(by omega), List.getElem?_eq_getElem _⟩
      have hrx := HS.out.rd x (List.mem_of_getElem? hx)
      have hry := HT.out.rd y (List.mem_of_getElem? hy)
      have HSM : Hid (∀ w', Below w.heap.size w w' → _) := fun w' hb => same_any x y w' (hrx.below hb) (hry.below hb)
      obtain ⟨b, o, rfl, hb, x0, x1, x2, x3, x4, x5⟩ := (HS.out.below HB.out).at hx
      obtain ⟨b', o', rfl, hb', y0, y1, y2, y3, y4, y5⟩ := (HT.out.below HB.out).at hy
      have hlt' : (q : Int) < (n : Int) := by omega
      have HX : Hid (l[q]? = some x) := hx
      have HY : Hid (l'[q]? = some y) := hy
      obtain ⟨xe, xx⟩ := x
      obtain ⟨ye, yy⟩ := y
      obtain ⟨xa, xc, hxx, -⟩ := hrx.x
      obtain ⟨ya, yc, hyy, -⟩ := hry.x
      simp only at hxx hyy x0 x1 x2 x3 x4 x5 y0 y1 y2 y3 y4 y5
      subst hxx hyy
      obtain ⟨r, hr⟩ : ∃ r : Bool, decide (xe = ye) = r := ⟨_, rfl⟩
      rw [hr] at HSM
      have HR : Hid (decide (xe = ye) = r) := hr
      clear hx hy hrx hry hr hn hn'
      go_wp2_with fail
      go_region_held3 (fun w' => w'.cell? ⟨b, o + q * 6, none⟩ = some (.int .i64 xe.s) ∧ w'.cell? ⟨b, o + q * 6 + 1, none⟩ = some (.int .i64 xe.v) ∧ w'.cell? ⟨b, o + q * 6 + 2, none⟩ = some (.int .i64 xe.k) ∧ w'.cell? ⟨b, o + q * 6 + 3, none⟩ = some (.int .i64 xe.se) ∧ w'.cell? ⟨b, o + q * 6 + 4, none⟩ = some (.int .i64 xe.rq) ∧ w'.cell? ⟨b, o + q * 6 + 5, none⟩ = some (.slice xa xe.ops.length xc) ∧ w'.cell? ⟨b', o' + q * 6, none⟩ = some (.int .i64 ye.s) ∧ w'.cell? ⟨b', o' + q * 6 + 1, none⟩ = some (.int .i64 ye.v) ∧ w'.cell? ⟨b', o' + q * 6 + 2, none⟩ = some (.int .i64 ye.k) ∧ w'.cell? ⟨b', o' + q * 6 + 3, none⟩ = some (.int .i64 ye.se) ∧ w'.cell? ⟨b', o' + q * 6 + 4, none⟩ = some (.int .i64 ye.rq) ∧ w'.cell? ⟨b', o' + q * 6 + 5, none⟩ = some (.slice ya ye.ops.length yc)) (first | (simp only [World.cell?_drew, World.cell?_drewN, x0, x1, x2, x3, x4, x5, y0, y1, y2, y3, y4, y5, and_self]; done) | fail)
        (first
        | (go_at_call 26; refine (HSM.out _ (below_drew HB.out)).mono ?_
           rintro e' w1 ⟨rfl, hb1⟩
           have HB1 : Hid (Below w.heap.size w w1) := trans2 (below_drew HB.out) hb1
           have hc : ∀ k o v, k < wr.heap.size → wr.cell? ⟨k, o, none⟩ = some v → w1.cell? ⟨k, o, none⟩ = some v := fun k o v hk hv => by rw [hb1.cell (p := ⟨k, o, none⟩) hk]; exact hv
           have x0 := hc _ _ _ hb x0
           have x1 := hc _ _ _ hb x1
           have x2 := hc _ _ _ hb x2
           have x3 := hc _ _ _ hb x3
           have x4 := hc _ _ _ hb x4
           have x5 := hc _ _ _ hb x5
           have y0 := hc _ _ _ hb' y0
           have y1 := hc _ _ _ hb' y1
           have y2 := hc _ _ _ hb' y2
           have y3 := hc _ _ _ hb' y3
           have y4 := hc _ _ _ hb' y4
           have y5 := hc _ _ _ hb' y5
           clear hb1 hc))
      cases r with
      | true =>
        have he : xe = ye := of_decide_eq_true HR.out
        have HK1 : Hid ((l.take (q + 1)).map (·.e) = (l'.take (q + 1)).map (·.e)) := by
          show _ = _
          rw [take_at HX.out, take_at HY.out, List.map_append, List.map_append, HK.out]
          simp [he]
        clear he
        go_wp2_with fail
        go_roundw
        case rel => exact ⟨q + 1, by go_num, by omega, HK1, HB1⟩
        case measure => simp [intOf]; omega
      | false =>
        go_wp2_with fail
        go_ret
        have he : xe ≠ ye := of_decide_eq_false HR.out
        have hne : l.map (·.e) ≠ l'.map (·.e) := part_ne (k := q) (by rw [List.getElem?_map, HX.out]; rfl) (by rw [List.getElem?_map, HY.out]; rfl) he
        exact ⟨by rw [decide_eq_false hne]; rfl, HB1.out⟩
    · obtain rfl : q = n := by omega
      have hge : ¬ (q : Int) < (q : Int) := by omega
      go_wp2_with fail
      go_ret
      have he := HK.out
      rw [List.take_of_length_le (by omega), List.take_of_length_le (by omega)] at he
      exact ⟨by rw [decide_eq_true he]; rfl, HB.out⟩
set_option maxHeartbeats 3200000 in
theorem sameAll_any (a a' : Option Addr) (c c' n n' : Nat) (l l' : List PEnt) (w : World) (hs : EsAt w a l) (ht : EsAt w a' l') (hn : l.length = n) (hn' : l'.length = n') (hl : n ≤ maxLen) :
    Calls Try.prog 11 #[.slice a n c, .slice a' n' c'] w fun e w' => e = .returned (.bool (decide (l.map (·.e) = l'.map (·.e)))) ∧ Below w.heap.size w w' := by
  by_cases h : n = n'
  · subst h
    exact sameAll_eq a a' c c' n l l' w hs ht hn hn' hl
  · have HX : Hid (l.map (·.e) ≠ l'.map (·.e)) := fun e => h (by have := congrArg List.length e; simp only [List.length_map] at this; omega)
    have hne : ¬ (n : Int) = (n' : Int) := by omega
    clear hs ht
    go_enter Try.func11, Try.ntmps11
    go_wp2_with fail
    go_ret
    exact ⟨by rw [decide_eq_false HX.out]; rfl, Below.refl _ _⟩
end Go.Proofs.Ytnmengoefpdaiaa
