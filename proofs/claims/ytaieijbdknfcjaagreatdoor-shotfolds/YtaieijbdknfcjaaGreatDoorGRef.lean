/-
  heraldref5: find (the index), put, without.
-/
import Derived.Test.YtaieijbdknfcjaaGreatDoorGPure
import Derived.Test.YtaieijbdknfcjaaGreatDoorGDel
import Derived.Test.YtaieijbdknfcjaaGreatDoorDChange
namespace Go.Proofs.YtaieijbdknfcjaaGreatDoor
open Go.RowKit Classical
set_option linter.unusedVariables false
set_option linter.unusedSimpArgs false

theorem ss_oneG {w : World} {g : Nat} {x : SeenT} (h : w.heap[g]? = some (.cells (seC x) 36 (0, 0))) : Ss w (some ⟨g, 0, none⟩) [x] := by
  refine .inr ⟨g, 0, rfl, lt_of_blk h, fun i s hi j y hy => ?_⟩
  cases i with
  | zero =>
    simp only [List.getElem?_cons_zero, Option.some.injEq] at hi
    subst hi
    unfold World.cell?
    simp only [h, Nat.zero_mul, Nat.zero_add]
    rw [← hy]
    simp [SeenT.cells, seC]
  | succ i => simp at hi
set_option maxHeartbeats 1600000 in
theorem refFind_pos (a : Option Addr) (c n : Nat) (l : List SeenT) (at' : ByteArray) (w : World) (hs : Ss w a l) (hn : l.length = n) (hl : n ≤ 1000) (hasc : Asc l) :
    Calls Tryz.prog 43 #[.slice a n c, .string at'] w fun e w' => e = .returned (.int .i64 (if hasP l at' = true then ((pos l at' : Nat) : Int) else -1)) ∧ Below w.heap.size w w' := by
  have HS : Hid (Ss w a l) := hs
  have HN : Hid (l.length = n) := hn
  have HAS : Hid (Asc l) := hasc
  clear hs hn hasc
  go_enter Tryz.func43, Tryz.ntmps43
  go_wp2_with fail
  go_loopw [5] (fun i wr => ∃ q : Nat, i = .int .i64 q ∧ q ≤ n ∧ Hid (∀ (j : Nat) (x : SeenT), j < q → l[j]? = some x → x.p ≠ at') ∧ Hid (Below w.heap.size w wr)) (fun i _ => n - (intOf i).toNat)
  case atStart => exact ⟨0, rfl, Nat.zero_le _, (fun j x h => absurd h (Nat.not_lt_zero _)), Below.refl _ _⟩
  case round =>
    obtain ⟨q, rfl, hq, HQ, HB⟩ := hrel
    by_cases hlt : q < n
    · have hlt' : (q : Int) < (n : Int) := by omega
      obtain ⟨x, hx⟩ : ∃ x, l[q]? = some x := ⟨l[q]'(by rw [HN.out]; exact hlt), List.getElem?_eq_getElem _⟩
      obtain ⟨b, o, rfl, hb, x0, x1, x2⟩ := (HS.out.below HB.out).at hx
      have HX : Hid (l[q]? = some x) := hx
      clear hx
      by_cases he : x.p = at'
      · have HP : Hid (hasP l at' = true) := hasP_iff.2 ⟨x, List.mem_of_getElem? HX.out, he⟩
        have HE : Hid (pos l at' = q) := pos_of HAS.out HX.out he
        rw [he] at x0
        go_wp2_with fail
        go_ret
        exact ⟨by rw [HE.out]; rfl, HB.out⟩
      · have hne : (x.p.toList == at'.toList) = false := by rw [eqL]; simp [he]
        have HQ1 : Hid (∀ (j : Nat) (x : SeenT), j < q + 1 → l[j]? = some x → x.p ≠ at') := fun j y hj hy => by
          rcases Nat.lt_or_ge j q with h | h
          · exact HQ.out j y h hy
          · obtain rfl : j = q := by omega
            rw [HX.out] at hy
            cases hy
            exact he
        clear he
        go_wp2_with fail
        go_roundw
        case rel => exact ⟨q + 1, by go_num, by omega, HQ1, by first | exact HB | exact below_drewN HB.out _ | exact below_drew HB.out⟩
        case measure => simp [intOf]; omega
    · obtain rfl : q = n := by omega
      have hge : ¬ (q : Int) < (q : Int) := by omega
      have HP : Hid (¬ hasP l at' = true) := fun h => by
        obtain ⟨s, hs, he⟩ := hasP_iff.1 h
        obtain ⟨i, hi⟩ := List.getElem?_of_mem hs
        exact HQ.out i s (by rw [← HN.out]; exact (List.getElem?_eq_some_iff.1 hi).1) hi he
      go_wp2_with fail
      go_ret
      exact ⟨rfl, HB.out⟩
theorem wo_snoc {l : List SeenT} {k q : Nat} {x : SeenT} (hx : l[q]? = some x) (hne : q ≠ k) : (l.take (q + 1)).eraseIdx k = (l.take q).eraseIdx k ++ [x] := by
  have hq : q < l.length := (List.getElem?_eq_some_iff.1 hx).1
  rw [take_snoc hx]
  rcases Nat.lt_or_ge k q with h | h
  · rw [List.eraseIdx_append_of_lt_length (by simp; omega)]
  · rw [List.eraseIdx_of_length_le (by simp; omega), List.eraseIdx_of_length_le (by simp; omega)]
theorem wo_skip {l : List SeenT} {q : Nat} {x : SeenT} (hx : l[q]? = some x) : (l.take (q + 1)).eraseIdx q = (l.take q).eraseIdx q := by
  have hq : q < l.length := (List.getElem?_eq_some_iff.1 hx).1
  rw [take_snoc hx, List.eraseIdx_append_of_length_le (by simp; omega), List.eraseIdx_of_length_le (l := l.take q) (by simp; omega)]
  simp [Nat.min_eq_left (Nat.le_of_lt hq)]
set_option maxHeartbeats 3200000 in
set_option maxRecDepth 100000 in
theorem without_any (a : Option Addr) (c n k : Nat) (l : List SeenT) (w : World) (hs : Ss w a l) (hn : l.length = n) (hl : n ≤ 1000) :
    Calls Tryz.prog 47 #[.slice a n c, .int .i64 k] w fun e w' => ∃ v, e = .returned v ∧ w'.ownsRow w.heap.size 36 3 v (l.eraseIdx k).length (seCs (l.eraseIdx k)) ∧ Below w.heap.size w w' := by
  have HS : Hid (Ss w a l) := hs
  have HN : Hid (l.length = n) := hn
  clear hs hn
  go_enter Tryz.func47, Tryz.ntmps47
  go_wp2_with fail
  go_loopw [5, 6] (fun v i wr => ∃ q : Nat, i = .int .i64 q ∧ q ≤ n ∧ Hid (wr.ownsRow w.heap.size 36 3 v ((l.take q).eraseIdx k).length (seCs ((l.take q).eraseIdx k))) ∧ Hid (Below w.heap.size w wr)) (fun _ i _ => n - (intOf i).toNat)
  case atStart => exact ⟨0, rfl, Nat.zero_le _, World.ownsRow_nil _ _ _ _, Below.refl _ _⟩
  case round =>
    obtain ⟨q, rfl, hq, HO, HB⟩ := hrel
    by_cases hlt : q < n
    · have hlt' : (q : Int) < (n : Int) := by omega
      obtain ⟨x, hx⟩ : ∃ x, l[q]? = some x := ⟨l[q]'(by rw [HN.out]; exact hlt), List.getElem?_eq_getElem _⟩
      obtain ⟨b, o, rfl, hb, x0, x1, x2⟩ := (HS.out.below HB.out).at hx
      have HX : Hid (l[q]? = some x) := hx
      clear hx
      by_cases he : q = k
      · subst he
        have HO' : Hid (wr.ownsRow w.heap.size 36 3 u5 ((l.take (q + 1)).eraseIdx q).length (seCs ((l.take (q + 1)).eraseIdx q))) := by rw [wo_skip HX.out]; exact HO.out
        go_wp2_with fail
        go_roundw
        case rel => exact ⟨q + 1, by go_num, by omega, HO', HB⟩
        case measure => simp [intOf]; omega
      · have hne : ¬ ((q : Int) = (k : Int)) := by omega
        obtain ⟨M, hM⟩ : ∃ M, (l.take q).eraseIdx k = M := ⟨_, rfl⟩
        have HM : Hid ((l.take (q + 1)).eraseIdx k = M ++ [x]) := by show _ = _; rw [wo_snoc HX.out he, hM]
        have HML : Hid (M.length ≤ q) := by show _ ≤ _; rw [← hM]; exact Nat.le_trans (List.length_eraseIdx_le _ _) (by simp; omega)
        rw [hM] at HO
        clear hM
        have hqs := HB.out.size
        go_wp2_with (first
          | (at_builtin; refine wpList_appS rfl _ _ rfl w.heap.size u5 M.length (seCs M) rfl (World.ownsRow.alloc HO.out _) (some ⟨wr.heap.size, 0, none⟩) 1 1 [x] rfl rfl (ss_oneG (heap_alloc_new _ _)) (fun h => by cases h) (by have := HML.out; simp; omega) (by simp; omega) ?_
             intro v3 w3 ho3 hg3 hat3
             have HO3 : Hid (w3.ownsRow w.heap.size 36 3 v3 ((l.take (q + 1)).eraseIdx k).length (seCs ((l.take (q + 1)).eraseIdx k))) := by
               show World.ownsRow _ _ _ _ _ _ _
               rw [HM.out, seCs_append, List.length_append]
               exact ho3
             have HB3 : Hid (Below w.heap.size w w3) := (HB.out.alloc HB.out.size _).trans ((Below.refl _ _).grown hg3 (by simp; omega) (fun j hj => (HO.out.lt j hj).1))
             clear ho3 hg3 hat3)
          | fail)
        go_roundw
        case rel => exact ⟨q + 1, by go_num, by omega, HO3, HB3⟩
        case measure => simp [intOf]; omega
    · obtain rfl : q = n := by omega
      have hge : ¬ (q : Int) < (q : Int) := by omega
      have HO9 : Hid (wr.ownsRow w.heap.size 36 3 u5 (l.eraseIdx k).length (seCs (l.eraseIdx k))) := by have := HO.out; rw [← HN.out, List.take_length] at this; exact this
      go_wp2_with fail
      go_ret
      exact ⟨u5, rfl, HO9.out, HB.out⟩
end Go.Proofs.YtaieijbdknfcjaaGreatDoor
