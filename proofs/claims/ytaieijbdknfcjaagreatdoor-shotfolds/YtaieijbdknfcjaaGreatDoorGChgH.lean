import Derived.Deep.QuietTactic
import Derived.BigQuiet
import Derived.Test.YtaieijbdknfcjaaGreatDoorGRef
import Derived.Test.YtaieijbdknfcjaaGreatDoorCRef
namespace Go.Proofs.YtaieijbdknfcjaaGreatDoor
open Go.RowKit Classical
set_option linter.unusedVariables false
set_option linter.unusedSimpArgs false

/-- What put has laid. -/
def putM (l : List SeenT) (x : SeenT) (t q : Nat) : List SeenT := if q ≤ t then l.take q else l.take t ++ x :: (l.take q).drop t
theorem putM_low {l : List SeenT} {x y : SeenT} {t q : Nat} (hy : l[q]? = some y) (h : q < t) : putM l x t (q + 1) = putM l x t q ++ [y] := by
  unfold putM
  rw [if_pos (by omega), if_pos (by omega), take_snoc hy]
theorem putM_at {l : List SeenT} {x y : SeenT} {t : Nat} (hy : l[t]? = some y) : putM l x t (t + 1) = putM l x t t ++ [x] ++ [y] := by
  have hq : t < l.length := (List.getElem?_eq_some_iff.1 hy).1
  unfold putM
  rw [if_neg (by omega), if_pos (Nat.le_refl _), take_snoc hy, List.drop_append_of_le_length (by simp; omega), List.drop_eq_nil_of_le (by simp; omega)]
  simp
theorem putM_high {l : List SeenT} {x y : SeenT} {t q : Nat} (hy : l[q]? = some y) (h : t < q) : putM l x t (q + 1) = putM l x t q ++ [y] := by
  have hq : q < l.length := (List.getElem?_eq_some_iff.1 hy).1
  unfold putM
  rw [if_neg (by omega), if_neg (by omega), take_snoc hy, List.drop_append_of_le_length (by simp; omega)]
  simp
theorem putM_zero (l : List SeenT) (x : SeenT) (t : Nat) : putM l x t 0 = [] := by simp [putM]
theorem putM_len {l : List SeenT} {x : SeenT} {t q : Nat} (hq : q ≤ l.length) : (putM l x t q).length ≤ q + 1 := by
  unfold putM
  split
  · simp; omega
  · simp; omega
theorem putM_end {l : List SeenT} {x : SeenT} {t : Nat} (h : t < l.length) : putM l x t l.length = l.take t ++ x :: l.drop t := by
  unfold putM
  rw [if_neg (by omega), List.take_length]
theorem putM_last (l : List SeenT) (x : SeenT) : putM l x l.length l.length ++ [x] = l.take l.length ++ x :: l.drop l.length := by
  unfold putM
  rw [if_pos (Nat.le_refl _)]
  simp
theorem ownsLowP {w : World} {B B' e s n : Nat} {v : Value} {xs : List Value} (h : w.ownsRow B e s v n xs) (hb : B' ≤ B) : w.ownsRow B' e s v n xs := by
  refine ⟨h.1, ?_⟩
  rcases h.2 with h0 | ⟨g, cap, cur, hv, hB, r⟩
  · exact .inl h0
  · exact .inr ⟨g, cap, cur, hv, Nat.le_trans hb hB, r⟩
theorem belowLe {B B' : Nat} {w w' : World} (h : Below B w w') (hB : B' ≤ B) : Below B' w w' := ⟨h.os, h.tape, h.output, h.size, fun k hk => h.block k (by omega)⟩
theorem Ss.at2 {w : World} {b o : Nat} {l : List SeenT} (h : Ss w (some ⟨b, o, none⟩) l) {i : Nat} {s : SeenT} (hi : l[i]? = some s) : w.cell? ⟨b, o + i * 3, none⟩ = some (.string s.p) ∧ w.cell? ⟨b, o + i * 3 + 1, none⟩ = some (.string s.d) ∧ w.cell? ⟨b, o + i * 3 + 2, none⟩ = some (.int .i64 s.v) := by
  obtain ⟨b', o', he, _, x0, x1, x2⟩ := h.at hi
  cases he
  exact ⟨x0, x1, x2⟩
set_option maxHeartbeats 6400000 in
set_option maxRecDepth 100000 in
theorem put_any (a : Option Addr) (c n : Nat) (l : List SeenT) (x : SeenT) (w : World) (hs : Ss w a l) (hn : l.length = n) (hl : n ≤ 1000) (hok : ∀ s ∈ l, s.p.size ≤ maxLen) (hx : x.p.size ≤ maxLen) (hasc : Asc l) (hno : hasP l x.p = false) :
    Calls Tryz.prog 46 #[.slice a n c, .agg (seC x)] w fun e w' => ∃ v, e = .returned v ∧ w'.ownsRow w.heap.size 36 3 v (insP l x).length (seCs (insP l x)) ∧ Below w.heap.size w w' := by
  obtain ⟨t, ht⟩ : ∃ t, pos l x.p = t := ⟨_, rfl⟩
  have HT0 : Hid (insP l x = l.take t ++ x :: l.drop t) := by show _ = _; unfold insP; rw [ht]
  have htn : t ≤ n := by rw [← ht, ← hn]; exact pos_le _ _
  have HLT : Hid (∀ (j : Nat) (s : SeenT), j < t → l[j]? = some s → O x.p s.p = 1) := fun j s hj hs' => by
    have h1 : O s.p x.p = -1 := pos_take l x.p s (by
      rw [ht]
      refine List.mem_of_getElem? (i := j) ?_
      rw [List.getElem?_take, if_pos hj]; exact hs')
    rw [O_anti, h1]; rfl
  have HGE : Hid (∀ (s : SeenT), l[t]? = some s → O x.p s.p = -1) := fun s hs' => pos_gt hasc hno s (by
    rw [ht]
    refine List.mem_of_getElem? (i := 0) ?_
    rw [List.getElem?_drop, Nat.add_zero]; exact hs')
  have HOR : Hid (∀ s ∈ l, ∀ w, Calls Tryz.prog 42 #[.string x.p, .string s.p] w fun e w' => e = .returned (.int .i64 (O x.p s.p)) ∧ w' = w) := fun s hs' w => ref_any x.p s.p hx (hok s hs') w
  have HS : Hid (Ss w a l) := hs
  have HN : Hid (l.length = n) := hn
  have HX0 : Hid ((w.alloc (.cells (seC x) 36)).heap[w.heap.size]? = some (.cells (seC x) 36 (0, 0))) := heap_alloc_new _ _
  clear hs hn hok hx hasc hno ht
  go_enter Tryz.func46, Tryz.ntmps46
  go_wp2_with fail
  go_loopw [5, 6, 7] (fun v d i wr => ∃ q : Nat, i = .int .i64 q ∧ d = .bool (decide (t < q)) ∧ q ≤ n ∧ Hid (wr.ownsRow (w.heap.size + 1) 36 3 v (putM l x t q).length (seCs (putM l x t q))) ∧ Hid (Below (w.heap.size + 1) (w.alloc (.cells (seC x) 36)) wr)) (fun _ _ i _ => n - (intOf i).toNat)
  case atStart => exact ⟨0, rfl, by simp, Nat.zero_le _, (by show World.ownsRow _ _ _ _ _ _ _; rw [putM_zero]; exact World.ownsRow_nil _ _ _ _), Below.refl _ _⟩
  case round =>
    obtain ⟨q, rfl, rfl, hq, HO, HB⟩ := hrel
    have HBk : Hid (Below (w.alloc (.cells (seC x) 36)).heap.size (w.alloc (.cells (seC x) 36)) wr) := by show Below _ _ _; have := HB.out; simpa using this
    have HXb : Hid (wr.heap[w.heap.size]? = some (.cells (seC x) 36 (0, 0))) := kept_block HBk.out HX0.out
    obtain ⟨k0, k1, k2⟩ := cells_3 HXb.out
    obtain ⟨M, hM⟩ : ∃ M, putM l x t q = M := ⟨_, rfl⟩
    have HML : Hid (M.length ≤ 1001) := by show _ ≤ _; rw [← hM]; have := putM_len (l := l) (x := x) (t := t) (q := q) (by rw [HN.out]; exact hq); omega
    have HM : Hid (putM l x t q = M) := hM
    rw [hM] at HO
    clear hM
    by_cases hlt : q < n
    · have hlt' : (q : Int) < (n : Int) := by omega
      obtain ⟨y, hy⟩ : ∃ y, l[q]? = some y := ⟨l[q]'(by rw [HN.out]; exact hlt), List.getElem?_eq_getElem _⟩
      obtain ⟨b, o, rfl, hb, x0, x1, x2⟩ := ((HS.out.below ((Below.refl _ _).alloc (Nat.le_refl _) _)).below HBk.out).at hy
      have HY : Hid (l[q]? = some y) := hy
      have HORy : Hid (∀ w, Calls Tryz.prog 42 #[.string x.p, .string y.p] w fun e w' => e = .returned (.int .i64 (O x.p y.p)) ∧ w' = w) := HOR.out y (List.mem_of_getElem? hy)
      clear hy
      rcases Nat.lt_trichotomy q t with hqt | hqt | hqt
      · have hd : decide (t < q) = false := decide_eq_false (by omega)
        have HD1 : Hid (decide (t < q + 1) = false) := decide_eq_false (by omega)
        have HMn : Hid (putM l x t (q + 1) = M ++ [y]) := by show _ = _; rw [putM_low HY.out hqt, HM.out]
        have ho : O x.p y.p = 1 := HLT.out q y hqt HY.out
        rw [ho] at HORy
        clear ho
        rw [hd]
        go_wp2_with fail
        go_region_held3 (fun w' => w'.cell? ⟨w.heap.size, 0, none⟩ = some (.string x.p) ∧ w'.cell? ⟨b, o + q * 3, none⟩ = some (.string y.p)) (first | exact ⟨k0, x0⟩ | go_keep)
          (first
          | (go_at_call 42; refine (HORy.out _).mono ?_; rintro e w2 ⟨rfl, rfl⟩)
          | fail)
        have HOq : Hid ((wr.drew).ownsRow (w.heap.size + 1) 36 3 u5 M.length (seCs M)) := HO.out
        have HBq : Hid (Below (w.heap.size + 1) (w.alloc (.cells (seC x) 36)) (wr.drew)) := below_drew HB.out
        have g0 : (wr.drew).cell? ⟨w.heap.size, 0, none⟩ = some (.string x.p) := k0
        have g1 : (wr.drew).cell? ⟨w.heap.size, 1, none⟩ = some (.string x.d) := k1
        have g2 : (wr.drew).cell? ⟨w.heap.size, 2, none⟩ = some (.int .i64 x.v) := k2
        have g3 : (wr.drew).cell? ⟨b, o + q * 3, none⟩ = some (.string y.p) := x0
        have g4 : (wr.drew).cell? ⟨b, o + q * 3 + 1, none⟩ = some (.string y.d) := x1
        have g5 : (wr.drew).cell? ⟨b, o + q * 3 + 2, none⟩ = some (.int .i64 y.v) := x2
        clear k0 k1 k2 x0 x1 x2
        generalize hwq : wr.drew = wq at HOq HBq g0 g1 g2 g3 g4 g5 ⊢
        clear hwq
        go_wp2_with (first
          | (at_builtin; refine wpList_appS rfl _ _ rfl (w.heap.size + 1) u5 M.length (seCs M) rfl (World.ownsRow.alloc HOq.out _) (some ⟨wq.heap.size, 0, none⟩) 1 1 [y] rfl rfl (ss_oneG (heap_alloc_new _ _)) (fun h => by cases h) (by have := HML.out; simp; omega) (by have := HBq.out.size; simp at this ⊢; omega) ?_
             intro v3 w3 ho3 hg3 hat3
             have HO3 : Hid (w3.ownsRow (w.heap.size + 1) 36 3 v3 (M ++ [y]).length (seCs (M ++ [y]))) := by
               show World.ownsRow _ _ _ _ _ _ _
               rw [seCs_append, List.length_append]
               exact ho3
             have HB3 : Hid (Below (w.heap.size + 1) (w.alloc (.cells (seC x) 36)) w3) := (HBq.out.alloc (by have := HBq.out.size; simp at this; omega) _).trans ((Below.refl _ _).grown hg3 (by have := HBq.out.size; simp at this ⊢; omega) (fun j hj => (HOq.out.lt j hj).1))
             clear ho3 hg3 hat3)
          | fail)
        go_roundw
        case rel => exact ⟨q + 1, by go_num, by rw [HD1.out], by omega, by show World.ownsRow _ _ _ _ _ _ _; rw [HMn.out]; exact HO3.out, HB3⟩
        case measure => simp [intOf]; omega
      · subst hqt
        have hd : decide (q < q) = false := decide_eq_false (by omega)
        have HD1 : Hid (decide (q < q + 1) = true) := decide_eq_true (by omega)
        have HMn : Hid (putM l x q (q + 1) = M ++ [x] ++ [y]) := by show _ = _; rw [putM_at HY.out, HM.out]
        have ho : O x.p y.p = -1 := HGE.out y HY.out
        rw [ho] at HORy
        clear ho
        rw [hd]
        go_wp2_with fail
        go_region_held3 (fun w' => w'.cell? ⟨w.heap.size, 0, none⟩ = some (.string x.p) ∧ w'.cell? ⟨b, o + q * 3, none⟩ = some (.string y.p)) (first | exact ⟨k0, x0⟩ | go_keep)
          (first
          | (go_at_call 42; refine (HORy.out _).mono ?_; rintro e w2 ⟨rfl, rfl⟩)
          | fail)
        have HOq : Hid ((wr.drew).ownsRow (w.heap.size + 1) 36 3 u5 M.length (seCs M)) := HO.out
        have HBq : Hid (Below (w.heap.size + 1) (w.alloc (.cells (seC x) 36)) (wr.drew)) := below_drew HB.out
        have g0 : (wr.drew).cell? ⟨w.heap.size, 0, none⟩ = some (.string x.p) := k0
        have g1 : (wr.drew).cell? ⟨w.heap.size, 1, none⟩ = some (.string x.d) := k1
        have g2 : (wr.drew).cell? ⟨w.heap.size, 2, none⟩ = some (.int .i64 x.v) := k2
        have g3 : (wr.drew).cell? ⟨b, o + q * 3, none⟩ = some (.string y.p) := x0
        have g4 : (wr.drew).cell? ⟨b, o + q * 3 + 1, none⟩ = some (.string y.d) := x1
        have g5 : (wr.drew).cell? ⟨b, o + q * 3 + 2, none⟩ = some (.int .i64 y.v) := x2
        clear k0 k1 k2 x0 x1 x2
        generalize hwq : wr.drew = wq at HOq HBq g0 g1 g2 g3 g4 g5 ⊢
        clear hwq
        go_wp2_with (first
          | (at_builtin; refine wpList_appS rfl _ _ rfl (w.heap.size + 1) v3 (M ++ [x]).length (seCs (M ++ [x])) rfl (World.ownsRow.alloc HO3.out _) (some ⟨w3.heap.size, 0, none⟩) 1 1 [y] rfl rfl (ss_oneG (heap_alloc_new _ _)) (fun h => by cases h) (by have := HML.out; simp; omega) (by have := HB3.out.size; simp at this ⊢; omega) ?_
             intro v4 w4 ho3 hg3 hat3
             have HO4 : Hid (w4.ownsRow (w.heap.size + 1) 36 3 v4 (M ++ [x] ++ [y]).length (seCs (M ++ [x] ++ [y]))) := by
               show World.ownsRow _ _ _ _ _ _ _
               rw [seCs_append, List.length_append]
               exact ho3
             have HB4 : Hid (Below (w.heap.size + 1) (w.alloc (.cells (seC x) 36)) w4) := (HB3.out.alloc (by have := HB3.out.size; simp at this; omega) _).trans ((Below.refl _ _).grown hg3 (by have := HB3.out.size; simp at this ⊢; omega) (fun j hj => (HO3.out.lt j hj).1))
             clear ho3 hg3 hat3)
          | (at_builtin; refine wpList_appS rfl _ _ rfl (w.heap.size + 1) u5 (M).length (seCs (M)) rfl (World.ownsRow.alloc HOq.out _) (some ⟨wq.heap.size, 0, none⟩) 1 1 [x] rfl rfl (ss_oneG (heap_alloc_new _ _)) (fun h => by cases h) (by have := HML.out; simp; omega) (by have := HBq.out.size; simp at this ⊢; omega) ?_
             intro v3 w3 ho3 hg3 hat3
             have HO3 : Hid (w3.ownsRow (w.heap.size + 1) 36 3 v3 (M ++ [x]).length (seCs (M ++ [x]))) := by
               show World.ownsRow _ _ _ _ _ _ _
               rw [seCs_append, List.length_append]
               exact ho3
             have HB3 : Hid (Below (w.heap.size + 1) (w.alloc (.cells (seC x) 36)) w3) := (HBq.out.alloc (by have := HBq.out.size; simp at this; omega) _).trans ((Below.refl _ _).grown hg3 (by have := HBq.out.size; simp at this ⊢; omega) (fun j hj => (HOq.out.lt j hj).1))
             clear ho3 hg3 hat3
             have HBk3 : Hid (Below (w.alloc (.cells (seC x) 36)).heap.size (w.alloc (.cells (seC x) 36)) w3) := by show Below _ _ _; have := HB3.out; simpa using this
             clear g3 g4 g5
             obtain ⟨x0, x1, x2⟩ := ((HS.out.below ((Below.refl _ _).alloc (Nat.le_refl _) _)).below HBk3.out).at2 HY.out)
          | fail)
        go_roundw
        case rel => exact ⟨q + 1, by go_num, by rw [HD1.out], by omega, by show World.ownsRow _ _ _ _ _ _ _; rw [HMn.out]; exact HO4.out, HB4⟩
        case measure => simp [intOf]; omega
      · have hd : decide (t < q) = true := decide_eq_true hqt
        have HD1 : Hid (decide (t < q + 1) = true) := decide_eq_true (by omega)
        have HMn : Hid (putM l x t (q + 1) = M ++ [y]) := by show _ = _; rw [putM_high HY.out hqt, HM.out]
        rw [hd]
        go_wp2_with fail
        go_quiet (fail)
        have HOq : Hid ((wr.drewN nq).ownsRow (w.heap.size + 1) 36 3 u5 M.length (seCs M)) := HO.out
        have HBq : Hid (Below (w.heap.size + 1) (w.alloc (.cells (seC x) 36)) (wr.drewN nq)) := below_drewN HB.out _
        have g0 : (wr.drewN nq).cell? ⟨w.heap.size, 0, none⟩ = some (.string x.p) := k0
        have g1 : (wr.drewN nq).cell? ⟨w.heap.size, 1, none⟩ = some (.string x.d) := k1
        have g2 : (wr.drewN nq).cell? ⟨w.heap.size, 2, none⟩ = some (.int .i64 x.v) := k2
        have g3 : (wr.drewN nq).cell? ⟨b, o + q * 3, none⟩ = some (.string y.p) := x0
        have g4 : (wr.drewN nq).cell? ⟨b, o + q * 3 + 1, none⟩ = some (.string y.d) := x1
        have g5 : (wr.drewN nq).cell? ⟨b, o + q * 3 + 2, none⟩ = some (.int .i64 y.v) := x2
        clear k0 k1 k2 x0 x1 x2
        generalize hwq : wr.drewN nq = wq at HOq HBq g0 g1 g2 g3 g4 g5 ⊢
        clear hwq
        go_wp2_with (first
          | (at_builtin; refine wpList_appS rfl _ _ rfl (w.heap.size + 1) u5 (M).length (seCs (M)) rfl (World.ownsRow.alloc HOq.out _) (some ⟨wq.heap.size, 0, none⟩) 1 1 [y] rfl rfl (ss_oneG (heap_alloc_new _ _)) (fun h => by cases h) (by have := HML.out; simp; omega) (by have := HBq.out.size; simp at this ⊢; omega) ?_
             intro v3 w3 ho3 hg3 hat3
             have HO3 : Hid (w3.ownsRow (w.heap.size + 1) 36 3 v3 (M ++ [y]).length (seCs (M ++ [y]))) := by
               show World.ownsRow _ _ _ _ _ _ _
               rw [seCs_append, List.length_append]
               exact ho3
             have HB3 : Hid (Below (w.heap.size + 1) (w.alloc (.cells (seC x) 36)) w3) := (HBq.out.alloc (by have := HBq.out.size; simp at this; omega) _).trans ((Below.refl _ _).grown hg3 (by have := HBq.out.size; simp at this ⊢; omega) (fun j hj => (HOq.out.lt j hj).1))
             clear ho3 hg3 hat3)
          | fail)
        go_roundw
        case rel => exact ⟨q + 1, by go_num, by rw [HD1.out], by omega, by show World.ownsRow _ _ _ _ _ _ _; rw [HMn.out]; exact HO3.out, HB3⟩
        case measure => simp [intOf]; omega
    · obtain rfl : q = n := by omega
      have hge : ¬ (q : Int) < (q : Int) := by omega
      have HWw : Hid (∀ w', Below (w.heap.size + 1) (w.alloc (.cells (seC x) 36)) w' → Below w.heap.size w w') := fun w' hb => ((Below.refl w.heap.size w).alloc (Nat.le_refl _) _).trans (belowLe hb (by omega))
      by_cases htq : t < q
      · have HMn : Hid (insP l x = M) := by show _ = _; rw [HT0.out, ← HM.out, ← HN.out, putM_end (by rw [HN.out]; exact htq)]
        have hd : decide (t < q) = true := decide_eq_true htq
        rw [hd]
        go_wp2_with fail
        go_ret
        exact ⟨u5, rfl, by rw [HMn.out]; exact ownsLowP HO.out (by omega), HWw.out _ HB.out⟩
      · obtain rfl : t = q := by omega
        have HMn : Hid (insP l x = M ++ [x]) := by show _ = _; rw [HT0.out, ← HM.out, ← HN.out, putM_last]
        have hd : decide (t < t) = false := decide_eq_false (by omega)
        rw [hd]
        go_wp2_with (first
          | (at_builtin; refine wpList_appS rfl _ _ rfl (w.heap.size + 1) u5 (M).length (seCs (M)) rfl (World.ownsRow.alloc HO.out _) (some ⟨wr.heap.size, 0, none⟩) 1 1 [x] rfl rfl (ss_oneG (heap_alloc_new _ _)) (fun h => by cases h) (by have := HML.out; simp; omega) (by have := HB.out.size; simp at this ⊢; omega) ?_
             intro v3 w3 ho3 hg3 hat3
             have HO3 : Hid (w3.ownsRow (w.heap.size + 1) 36 3 v3 (M ++ [x]).length (seCs (M ++ [x]))) := by
               show World.ownsRow _ _ _ _ _ _ _
               rw [seCs_append, List.length_append]
               exact ho3
             have HB3 : Hid (Below (w.heap.size + 1) (w.alloc (.cells (seC x) 36)) w3) := (HB.out.alloc (by have := HB.out.size; simp at this; omega) _).trans ((Below.refl _ _).grown hg3 (by have := HB.out.size; simp at this ⊢; omega) (fun j hj => (HO.out.lt j hj).1))
             clear ho3 hg3 hat3)
          | fail)
        go_ret
        exact ⟨v3, rfl, by rw [HMn.out]; exact ownsLowP HO3.out (by omega), HWw.out _ HB3.out⟩
end Go.Proofs.YtaieijbdknfcjaaGreatDoor
namespace Go.Proofs.YtaieijbdknfcjaaGreatDoor
open Go.RowKit Classical
set_option linter.unusedVariables false
set_option linter.unusedSimpArgs false

/-- The two boxes of a change. -/
structure RC (w W : World) (A C : Array Value) : Prop where
  pa : W.heap[w.heap.size]? = some (.cells A 24 (0, 0))
  pc : W.heap[w.heap.size + 1]? = some (.cells C 39 (0, 0))
  low : Below w.heap.size w W
theorem RC.start (w : World) (A C : Array Value) : RC w ((w.alloc (.cells A 24)).alloc (.cells C 39)) A C := ⟨new_old (heap_alloc_new _ _) _, heap_new' (by simp), ((Below.refl _ _).alloc (Nat.le_refl _) _).alloc (by simp) _⟩
theorem RC.below {w W W' : World} {A C : Array Value} (h : RC w W A C) (hb : Below W.heap.size W W') : RC w W' A C := ⟨kept_block hb h.pa, kept_block hb h.pc, trans2 h.low hb⟩
abbrev ChgEnd (k : Int) (p : ByteArray) (l : List SeenT) (c : ChT) (w : World) (e : Ending) (w' : World) : Prop :=
  (stepF k p l c = none ∧ e = .returned (.tuple #[.slice none 0 0, .bool false]) ∧ Below w.heap.size w w') ∨ (∃ m a' cap', stepF k p l c = some m ∧ e = .returned (.tuple #[.slice a' m.length cap', .bool true]) ∧ Ss w' a' m ∧ Below w.heap.size w w')
theorem isP_sizeR {x : ByteArray} (h : isP x = true) : x.size ≤ 102 := by
  obtain ⟨⟨c, xs⟩, hp⟩ : ∃ q, parse x = q := ⟨_, rfl⟩
  have hc : c = 0 := by have := isP_iff.1 h; rw [hp] at this; exact this
  subst hc
  have hl := parse_len hp
  rw [← parse_back hp]
  exact place_size hl.1 hl.2
theorem owns_formR {w : World} {B e s n : Nat} {v : Value} {xs : List Value} (h : w.ownsRow B e s v n xs) : ∃ a c, v = .slice a n c := by
  rcases h.2 with ⟨h0, h1⟩ | ⟨g, cap, cur, hv, _⟩
  · exact ⟨none, 0, by rw [h0, h1]⟩
  · exact ⟨_, cap, hv⟩
theorem erase_eq (l : List SeenT) (i : Nat) : l.eraseIdx i = l.take i ++ l.drop (i + 1) := List.eraseIdx_eq_take_drop_succ l i
theorem erase_asc {l : List SeenT} (h : Asc l) (i : Nat) : Asc (l.eraseIdx i) := asc_pw.2 ((asc_pw.1 h).sublist (List.eraseIdx_sublist l i))
theorem erase_no {l : List SeenT} (h : Asc l) {a : ByteArray} (hh : hasP l a = true) : hasP (l.eraseIdx (pos l a)) a = false := by
  rw [Bool.eq_false_iff]
  intro hc
  obtain ⟨s, hs, he⟩ := hasP_iff.1 hc
  rw [erase_eq] at hs
  rcases List.mem_append.1 hs with hs | hs
  · have := pos_take l a s hs
    rw [he, O_self] at this
    omega
  · have := pos_gt' h hh s hs
    rw [he, O_self] at this
    omega
theorem erase_pos {l : List SeenT} (h : Asc l) {a : ByteArray} (hh : hasP l a = true) : pos (l.eraseIdx (pos l a)) a = pos l a := by
  obtain ⟨x, hx, _⟩ := has_pos h hh
  have hlt := (List.getElem?_eq_some_iff.1 hx).1
  refine pos_eq a _ _ (by rw [erase_eq]; simp; omega) (fun q y hq hy => ?_) (fun q y hq hy => ?_)
  · rw [erase_eq, List.getElem?_append_left (by simp; omega)] at hy
    exact pos_take l a y (List.mem_of_getElem? hy)
  · rw [erase_eq, List.getElem?_append_right (by simp; omega)] at hy
    have := pos_gt' h hh y (List.mem_of_getElem? hy)
    rw [O_anti, this]
    decide
theorem set_erase {l : List SeenT} (h : Asc l) {x : SeenT} (hh : hasP l x.p = true) : insP (l.eraseIdx (pos l x.p)) x = setP l x := by
  obtain ⟨y, hy, _⟩ := has_pos h hh
  have hlt := (List.getElem?_eq_some_iff.1 hy).1
  have hl : (l.take (pos l x.p)).length = pos l x.p := by simp; omega
  unfold insP setP
  rw [erase_pos h hh, erase_eq, List.take_append_of_le_length (by omega), List.take_take, Nat.min_self, List.drop_append_of_le_length (by omega), List.drop_eq_nil_of_le (by omega)]
  rfl
theorem cov_set {k : Int} {p x : ByteArray} (h : covers k p 2 x = true) : k ≠ 2 := fun e => by
  subst e
  simp [covers, cov] at h
theorem pos_len {l : List SeenT} (h : Asc l) {a : ByteArray} (hh : hasP l a = true) : pos l a < l.length := by
  obtain ⟨x, hx, _⟩ := has_pos h hh
  exact (List.getElem?_eq_some_iff.1 hx).1
theorem eqLn {x y : ByteArray} (h : x ≠ y) : (x.toList == y.toList) = false := by rw [eqL]; simp [h]
end Go.Proofs.YtaieijbdknfcjaaGreatDoor
