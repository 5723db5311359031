import Derived.Test.YtaieijbdknfcjaaGreatDoorDBase
import Derived.Test.YtaieijbdknfcjaaGreatDoorDChange
import Derived.Test.YtaieijbdknfcjaaGreatDoorDTurned
namespace Go.Proofs.YtaieijbdknfcjaaGreatDoor
open Go.RowKit
set_option linter.unusedVariables false
set_option linter.unusedSimpArgs false

set_option maxHeartbeats 3200000 in
set_option maxRecDepth 100000 in
theorem sameChanges_eq (a a' : Option Addr) (c c' n : Nat) (l : List ChT) (w : World) (hs : Hs w a l) (ht : Hs w a' l) (hn : l.length = n) (hl : n ≤ 1000) :
    Calls Tryz.prog 25 #[.slice a n c, .slice a' n c'] w fun e w' => e = .returned (.bool true) ∧ Below w.heap.size w w' := by
  have HS : Hid (Hs w a l) := hs
  have HT : Hid (Hs w a' l) := ht
  have HN : Hid (l.length = n) := hn
  clear hs ht hn
  go_enter Tryz.func25, Tryz.ntmps25
  go_wp2_with fail
  go_loopw [5] (fun i wr => ∃ q : Nat, i = .int .i64 q ∧ q ≤ n ∧ Hid (Below w.heap.size w wr)) (fun i _ => n - (intOf i).toNat)
  case atStart => exact ⟨0, rfl, Nat.zero_le _, Below.refl _ _⟩
  case round =>
    obtain ⟨q, rfl, hq, HB⟩ := hrel
    by_cases hlt : q < n
    · obtain ⟨x, hx⟩ : ∃ x, l[q]? = some x := ⟨l[q]'(by rw [HN.out]; exact hlt), List.getElem?_eq_getElem _⟩
      obtain ⟨b, o, rfl, hb, x0, x1, x2, x3⟩ := (HS.out.below HB.out).at hx
      obtain ⟨b', o', rfl, hb', y0, y1, y2, y3⟩ := (HT.out.below HB.out).at hx
      have hlt' : (q : Int) < (n : Int) := by omega
      clear hx
      go_wp2_with fail
      go_region_held3 (fun w' => w'.cell? ⟨b, o + q * 4, none⟩ = some (.int .i64 x.k) ∧ w'.cell? ⟨b, o + q * 4 + 1, none⟩ = some (.string x.p) ∧ w'.cell? ⟨b, o + q * 4 + 2, none⟩ = some (.string x.d) ∧ w'.cell? ⟨b, o + q * 4 + 3, none⟩ = some (.int .i64 x.v) ∧ w'.cell? ⟨b', o' + q * 4, none⟩ = some (.int .i64 x.k) ∧ w'.cell? ⟨b', o' + q * 4 + 1, none⟩ = some (.string x.p) ∧ w'.cell? ⟨b', o' + q * 4 + 2, none⟩ = some (.string x.d) ∧ w'.cell? ⟨b', o' + q * 4 + 3, none⟩ = some (.int .i64 x.v)) (go_keep) (fail)
      go_wp2_with fail
      go_roundw
      case rel => exact ⟨q + 1, by go_num, by omega, below_drew HB.out⟩
      case measure => simp [intOf]; omega
    · obtain rfl : q = n := by omega
      have hge : ¬ (q : Int) < (q : Int) := by omega
      go_wp2_with fail
      go_ret
      exact ⟨rfl, HB.out⟩
end Go.Proofs.YtaieijbdknfcjaaGreatDoor
namespace Go.Proofs.YtaieijbdknfcjaaGreatDoor
open Go.RowKit Classical
set_option linter.unusedVariables false
set_option linter.unusedSimpArgs false

abbrev otherT : ChT := ⟨91, pB, ⟨#[]⟩, 0⟩
theorem other_any (w : World) :
    Calls Tryz.prog 12 #[] w fun e w' => e = .returned (.agg (chA otherT)) ∧ Below w.heap.size w w' := by
  go_enter Tryz.func12, Tryz.ntmps12
  go_wp2_with fail
  exact bodyPost_ret (results_cell_row rfl _ _ w.heap.size 39 _ (0, 0) _ rfl (heap_alloc_new _ _) Tryz.underlying39 rfl (by kernel_rfl)) rfl ⟨rfl, (Below.refl _ _).alloc (Nat.le_refl _) _⟩
theorem chCs_one1 (c : ChT) : chCs [c] = c.cells := by simp [chCs]
set_option maxHeartbeats 3200000 in
set_option maxRecDepth 100000 in
theorem roomyChanges_any (a : Option Addr) (c n : Nat) (l : List ChT) (w : World) (hs : Hs w a l) (hn : l.length = n) (hl : n ≤ 1000) (hna : a = none → c = 0) :
    Calls Tryz.prog 6 #[.slice a n c] w fun e w' => ∃ g cap, e = .returned (.slice (some ⟨g, 0, none⟩) n cap) ∧ w'.ownsRow w.heap.size 39 4 (.slice (some ⟨g, 0, none⟩) (n + 1) cap) (n + 1) (chCs l ++ otherT.cells) ∧ Below w.heap.size w w' := by
  have HS : Hid (Hs w a l) := hs
  have HN : Hid (l.length = n) := hn
  have HA : Hid (a = none → c = 0) := hna
  clear hs hn hna
  go_enter Tryz.func6, Tryz.ntmps6
  go_wp2_with (first
    | (at_builtin; refine wpList_appC rfl _ _ rfl w.heap.size (.slice none 0 0) 0 [] rfl (World.ownsRow_nil _ _ _ _) a n c l rfl HN.out.symm HS.out HA.out (by rw [HN.out]; omega) (Nat.le_refl _) ?_
       intro v1 w1 ho1 hg1 hat1
       rw [HN.out, Nat.zero_add, List.nil_append] at ho1
       have HO1 : Hid (w1.ownsRow w.heap.size 39 4 v1 n (chCs l)) := ho1
       have HB1 : Hid (Below w.heap.size w w1) := (Below.refl _ _).grown hg1 (Nat.le_refl _) (fun j hj => by cases hj)
       clear ho1 hg1 hat1)
    | fail)
  refine (other_any _).mono ?_
  rintro e w2 ⟨rfl, hb2⟩
  have HO2 : Hid (w2.ownsRow w.heap.size 39 4 v1 n (chCs l)) := owns_below HO1.out hb2
  have HB2 : Hid (Below w.heap.size w w2) := trans2 HB1.out hb2
  have hz2 := HB2.out.size
  clear hb2
  go_wp2_with (first
    | (at_builtin; refine wpList_appC rfl _ _ rfl w.heap.size v1 n (chCs l) rfl (World.ownsRow.alloc HO2.out _) (some ⟨w2.heap.size, 0, none⟩) 1 1 [otherT] rfl rfl (hs_one (heap_alloc_new _ _)) (fun h => by cases h) (by simp; omega) (by simp; omega) ?_
       intro v3 w3 ho3 hg3 hat3
       rw [chCs_one1] at ho3
       have HB3 : Hid (Below w.heap.size w w3) := (HB2.out.alloc HB2.out.size _).trans ((Below.refl _ _).grown hg3 (by simp; omega) (fun j hj => (HO2.out.lt j hj).1))
       obtain ⟨g, cap, rfl⟩ : ∃ g cap, v3 = .slice (some ⟨g, 0, none⟩) (n + 1) cap := by
         rcases ho3.2 with ⟨h0, h1⟩ | ⟨g', cap', cur, hv, _⟩
         · exact absurd h1 (by simp)
         · exact ⟨g', cap', hv⟩
       have HO3 : Hid (w3.ownsRow w.heap.size 39 4 (.slice (some ⟨g, 0, none⟩) (n + 1) cap) (n + 1) (chCs l ++ otherT.cells)) := ho3
       have hcap : n + 1 ≤ cap := owns_cap ho3
       have hcI : n ≤ cap := by omega
       clear ho3 hg3 hat3)
    | fail)
  go_ret
  exact ⟨g, cap, rfl, HO3.out, HB3.out⟩
set_option maxHeartbeats 3200000 in
set_option maxRecDepth 100000 in
theorem untouchedChanges_any (base g cap n : Nat) (l : List ChT) (a : Option Addr) (c : Nat) (w : World) (hn : l.length = n) (hr : w.ownsRow base 39 4 (.slice (some ⟨g, 0, none⟩) (n + 1) cap) (n + 1) (chCs l ++ otherT.cells)) (hs : Hs w a l) (hl : n ≤ 1000) :
    Calls Tryz.prog 17 #[.slice (some ⟨g, 0, none⟩) n cap, .slice a n c] w fun e w' => e = .returned (.bool true) ∧ Below w.heap.size w w' := by
  have hcap := owns_cap hr
  have hcl : (chCs l).length = n * 4 := by rw [chCs_len, hn]
  have hm : ∀ w', Below w.heap.size w w' → w'.cell? ⟨g, n * 4, none⟩ = some (.int .i64 91) ∧ w'.cell? ⟨g, n * 4 + 1, none⟩ = some (.string pB) ∧ w'.cell? ⟨g, n * 4 + 2, none⟩ = some (.string ⟨#[]⟩) ∧ w'.cell? ⟨g, n * 4 + 3, none⟩ = some (.int .i64 0) := fun w' hb => by
    have hr' := owns_below hr hb
    refine ⟨cell_n hr' ?_, cell_n hr' ?_, cell_n hr' ?_, cell_n hr' ?_⟩ <;> (rw [List.getElem?_append_right (by omega), hcl]; simp)
  have HM : Hid _ := hm
  have HQ : Hid (∀ w', Below w.heap.size w w' → Calls Tryz.prog 25 #[.slice (some ⟨g, 0, none⟩) n cap, .slice a n c] w' fun e w'' => e = .returned (.bool true) ∧ Below w'.heap.size w' w'') := fun w' hb => sameChanges_eq _ a cap c n l w' ((hs_of_owns hr).below hb) (hs.below hb) hn hl
  have hw1 : IntKind.i64.wrap ((n : Int) + 1) = (n : Int) + 1 := by rw [IntKind.wrap_i64]; omega
  have hb1 : (0 : Int) ≤ (n : Int) + 1 := by omega
  have htn : ((n : Int) + 1).toNat = n + 1 := by omega
  have hcI : (n : Int) + 1 ≤ (cap : Int) := by omega
  have hlt : (n : Int) < (n : Int) + 1 := by omega
  clear hr hs hn hcl hm
  go_enter Tryz.func17, Tryz.ntmps17
  go_wp2_with fail
  obtain ⟨m0, m1, m2, m3⟩ := HM.out w (Below.refl _ _)
  go_region_held3 (fun w' => w'.cell? ⟨g, n * 4, none⟩ = some (.int .i64 91) ∧ w'.cell? ⟨g, n * 4 + 1, none⟩ = some (.string pB) ∧ w'.cell? ⟨g, n * 4 + 2, none⟩ = some (.string ⟨#[]⟩) ∧ w'.cell? ⟨g, n * 4 + 3, none⟩ = some (.int .i64 0)) (first | exact ⟨m0, m1, m2, m3⟩ | go_keep)
    (first
    | (go_at_call 25; refine (HQ.out _ (below_drew (Below.refl _ _))).mono ?_; rintro e w1 ⟨rfl, hb1⟩
       have HB1 : Hid (Below w.heap.size w w1) := of_drew hb1
       clear hb1 m0 m1 m2 m3
       obtain ⟨m0, m1, m2, m3⟩ := HM.out w1 HB1.out)
    | (go_at_call 12; refine (other_any _).mono ?_; rintro e w2 ⟨rfl, hb2⟩
       have HB2 : Hid (Below w.heap.size w w2) := trans2 HB1.out hb2
       clear hb2 m0 m1 m2 m3
       obtain ⟨m0, m1, m2, m3⟩ := HM.out w2 HB2.out)
    | fail)
  go_wp2_with fail
  go_ret
  exact ⟨rfl, HB2.out⟩
end Go.Proofs.YtaieijbdknfcjaaGreatDoor
