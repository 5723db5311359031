/-
  tree: Part of both trees.
-/
import Derived.Test.YtmbomdhhiioigaaGreatDoorTRefH
import Derived.Test.YtmbomdhhiioigaaGreatDoorKGrow
namespace Go.Proofs.YtmbomdhhiioigaaGreatDoor
open Go.RowKit Go.Maps Go.WideShapes
set_option linter.unusedVariables false
set_option linter.unusedSimpArgs false

def partM (T : List Nd) (k : Int) (p : ByteArray) : Int × List SnT := if (parse p).1 ≠ 0 then (10, []) else if k < 1 ∨ 3 < k then (1, []) else (0, parT T k p)
theorem partM_len (T : List Nd) (k : Int) (p : ByteArray) : (partM T k p).2.length ≤ T.length := by
  unfold partM
  split
  · exact Nat.zero_le _
  · split
    · exact Nat.zero_le _
    · exact parT_len _ _ _
theorem partT_all (B tb q : Nat) (T : List Nd) (k : Int) (p : ByteArray) (w : World) (hg : Ground w) (h : TrAt w B tb q T) :
    Calls Tryz.prog 16 #[.pointer (some ⟨tb, 0, none⟩), .string p, .int .i64 k] w fun e w' => ∃ a cap, e = .returned (.tuple #[.slice a (partM T k p).2.length cap, .int .i64 (partM T k p).1]) ∧ w'.ownsRow w.heap.size 92 3 (.slice a (partM T k p).2.length cap) (partM T k p).2.length ((partM T k p).2.flatMap SnT.cs) ∧ Below w.heap.size w w' := by
  unfold partM
  by_cases hp : (parse p).1 = 0
  · rw [if_neg (by simpa using hp)]
    by_cases hk : k < 1 ∨ 3 < k
    · rw [if_pos hk]
      refine Calls.mono (part_arg B tb q T k p w hg h hp hk) ?_
      rintro e w' ⟨rfl, hb⟩
      exact ⟨none, 0, rfl, World.ownsRow_nil _ _ _ _, hb⟩
    · rw [if_neg hk]
      exact part_tr B tb q T k p w hg h hp (by omega)
  · rw [if_pos hp]
    refine Calls.mono (part_bad B tb q T k p w hg h hp) ?_
    rintro e w' ⟨rfl, hb⟩
    exact ⟨none, 0, rfl, World.ownsRow_nil _ _ _ _, hb⟩
theorem refPart_all (a : Option Addr) (c : Nat) (T : List Nd) (k : Int) (p : ByteArray) (w : World) (h : NdsAt w a T) (hS : Snd T) :
    Calls Tryz.prog 19 #[rtV a T.length c, .string p, .int .i64 k] w fun e w' => ∃ v, e = .returned (.tuple #[v, .int .i64 (partM T k p).1]) ∧ w'.ownsRow w.heap.size 92 3 v (partM T k p).2.length ((partM T k p).2.flatMap SnT.cs) ∧ Below w.heap.size w w' := by
  have h0 : 0 < T.length := List.length_pos_iff.2 hS.ne
  have hi : ∀ x ∈ T, isP x.p = true := fun x hx => by simpa [isP] using (hS.inv.nd x hx).1
  have h64 := hS.inv.len
  unfold partM
  by_cases hp : (parse p).1 = 0
  · have hp' : isP p = true := by simpa [isP] using hp
    rw [if_neg (by simpa using hp)]
    by_cases hk : k < 1 ∨ 3 < k
    · rw [if_pos hk]
      refine Calls.mono (refPart_arg a T.length c p k w h0 hp' hk) ?_
      rintro e w' ⟨rfl, hb⟩
      exact ⟨_, rfl, World.ownsRow_nil _ _ _ _, hb⟩
    · rw [if_neg hk]
      show Calls _ _ _ _ (PartE w (parT T k p))
      cases hf : fnd T p with
      | none =>
        rw [part_none hS hp hf k]
        exact refPart_gone a c T p k w h h64 hp' (by omega) (by rw [fndI_none (fnd_none hf)]; decide) h0
      | some u =>
        obtain ⟨i, hi', _⟩ := fndI_fnd hf
        have hfi : 0 ≤ fndI T p := by rw [hi']; omega
        rcases (show k = 1 ∨ k = 2 ∨ k = 3 by omega) with rfl | rfl | rfl
        · exact refPart_1 a c T p w h h64 hp' hfi hi h0
        · exact refPart_2 a c T p w h h64 hp' hfi hi h0
        · exact refPart_3 a c T p w h h64 hp' hfi hi h0
  · have hp' : isP p = false := by simpa [isP] using hp
    rw [if_pos hp]
    refine Calls.mono (refPart_bad a T.length c p k w h0 hp') ?_
    rintro e w' ⟨rfl, hb⟩
    exact ⟨_, rfl, World.ownsRow_nil _ _ _ _, hb⟩
theorem partM_ok {T : List Nd} {k : Int} {p : ByteArray} (h : (partM T k p).1 = 0) : (parse p).1 = 0 ∧ 1 ≤ k ∧ k ≤ 3 := by
  unfold partM at h
  split at h
  · cases h
  · rename_i hp
    split at h
    · cases h
    · exact ⟨by simpa using hp, by omega, by omega⟩
end Go.Proofs.YtmbomdhhiioigaaGreatDoor
namespace Go.Proofs.YtmbomdhhiioigaaGreatDoor
open Go.RowKit Go.Maps Go.WideShapes
set_option linter.unusedVariables false
set_option linter.unusedSimpArgs false
attribute [local go_sem ↓] Go.wp_at_zero Go.wp_at_succ

structure TkT where
  code : Int
  st : Int
  p : ByteArray
  k : Int
  l : List SnT
def takeH (T : List Nd) (st : Int) (p : ByteArray) (k : Int) : TkT := if st < 0 ∨ 2147483647 < st then ⟨1, 0, ⟨#[]⟩, 0, []⟩ else if (partM T k p).1 ≠ 0 then ⟨(partM T k p).1, 0, ⟨#[]⟩, 0, []⟩ else ⟨0, st, p, k, (partM T k p).2⟩
theorem takeH_len (T : List Nd) (st : Int) (p : ByteArray) (k : Int) : (takeH T st p k).l.length ≤ T.length := by
  unfold takeH
  split
  · exact Nat.zero_le _
  · split
    · exact Nat.zero_le _
    · exact partM_len T k p
abbrev shA (st : Int) (p : ByteArray) (k : Int) (a : Option Addr) (n c : Nat) : Array Value := #[.int .i64 st, .string p, .int .i64 k, .slice a n c]
def TakeE (w : World) (H : TkT) (e : Ending) (w' : World) : Prop := ∃ a c, e = .returned (.tuple #[.agg (shA H.st H.p H.k a H.l.length c), .int .i64 H.code]) ∧ w'.ownsRow w.heap.size 92 3 (.slice a H.l.length c) H.l.length (H.l.flatMap SnT.cs) ∧ Below w.heap.size w w'
theorem TakeE.no {w w' : World} (code : Int) (hb : Below w.heap.size w w') : TakeE w ⟨code, 0, ⟨#[]⟩, 0, []⟩ (.returned (.tuple #[.agg (shA 0 ⟨#[]⟩ 0 none 0 0), .int .i64 code])) w' := ⟨none, 0, rfl, World.ownsRow_nil _ _ _ _, hb⟩
theorem isNum_yes (v : Int) (w : World) (h0 : 0 ≤ v) (h1 : v ≤ 2147483647) :
    Calls Tryz.prog 15 #[.int .i64 v] w fun e w' => e = .returned (.bool true) ∧ w' = w := by
  have h0' : ¬ v < 0 := by omega
  have h1' : ¬ 2147483647 < v := by omega
  go_enter Tryz.func15, Tryz.ntmps15
  go_wp2_with fail
  go_ret
  exact ⟨rfl, rfl⟩
theorem isNum_no (v : Int) (w : World) (h : v < 0 ∨ 2147483647 < v) :
    Calls Tryz.prog 15 #[.int .i64 v] w fun e w' => e = .returned (.bool false) ∧ w' = w := by
  rcases h with h | h
  · have h0' : ¬ 0 ≤ v := by omega
    go_enter Tryz.func15, Tryz.ntmps15
    go_wp2_with fail
    go_ret
    exact ⟨rfl, rfl⟩
  · have h0' : 0 ≤ v := by omega
    have h1' : ¬ v ≤ 2147483647 := by omega
    go_enter Tryz.func15, Tryz.ntmps15
    go_wp2_with fail
    go_ret
    exact ⟨rfl, rfl⟩
set_option maxHeartbeats 4000000 in
set_option maxRecDepth 100000 in
theorem take_nil (st : Int) (p : ByteArray) (k : Int) (w : World) :
    Calls Tryz.prog 5 #[.pointer none, .int .i64 st, .string p, .int .i64 k] w (TakeE w ⟨1, 0, ⟨#[]⟩, 0, []⟩) := by
  go_enter Tryz.func5, Tryz.ntmps5
  go_upto_region 1 with fail
  obtain ⟨w1, hw1⟩ : ∃ y, w.alloc (.cells (shA 0 ⟨#[]⟩ 0 none 0 0) 31) = y := ⟨_, rfl⟩
  obtain ⟨sb, hsb⟩ : ∃ y, w.heap.size = y := ⟨_, rfl⟩
  have HB1 : Hid (Below w.heap.size w w1) := by rw [← hw1]; exact (Below.refl _ _).alloc (Nat.le_refl _) _
  have HX1 : Hid (w1.heap[sb]? = some (.cells (shA 0 ⟨#[]⟩ 0 none 0 0) 31 (0, 0))) := by rw [← hw1, ← hsb]; exact heap_alloc_new _ _
  have HSB : Hid (w.heap.size = sb) := hsb
  rw [hw1, hsb]
  clear hw1 hsb
  obtain ⟨z0, z1, z2, z3⟩ := cells_4 HX1.out
  have zf := free_4 HX1.out
  go_wp2_with fail
  exact bodyPost_ret (results_cell_tmp rfl _ _ sb 31 (shA 0 ⟨#[]⟩ 0 none 0 0) (0, 0) _ (.int .i64 1) rfl rfl (fill_4 HX1.out) Tryz.underlying31 rfl (by kernel_rfl)) rfl (TakeE.no 1 (fillB_4 HB1.out (by rw [HSB.out]; exact Nat.le_refl _)))
set_option maxHeartbeats 4000000 in
set_option maxRecDepth 100000 in
theorem takeT_any (B tb q : Nat) (T : List Nd) (st : Int) (p : ByteArray) (k : Int) (w : World) (hg : Ground w) (h : TrAt w B tb q T) :
    Calls Tryz.prog 5 #[.pointer (some ⟨tb, 0, none⟩), .int .i64 st, .string p, .int .i64 k] w (TakeE w (takeH T st p k)) := by
  have HPT : Hid (∀ w', Below w.heap.size w w' → _) := fun w' hb => partT_all B tb q T k p w' (hg.below hb) (h.below hb)
  unfold takeH
  have hpk : (partM T k p).1 = 0 → (parse p).1 = 0 := fun e => (partM_ok e).1
  obtain ⟨PM, hPM⟩ : ∃ PM, partM T k p = PM := ⟨_, rfl⟩
  rw [hPM] at HPT hpk ⊢
  clear hPM
  obtain ⟨pc, PL⟩ := PM
  have HCL : Hid (pc = 0 → ∀ w', Calls Tryz.prog 17 #[.string p] w' fun e w'' => e = .returned (.string p) ∧ Below w'.heap.size w' w'') := fun e w' => sclone_any p (Nat.le_trans (size_of_parse (hpk e)) (by decide)) w'
  by_cases hs : st < 0 ∨ 2147483647 < st
  · rw [if_pos hs]
    have HNU : Hid (∀ w', Calls Tryz.prog 15 #[.int .i64 st] w' fun e w'' => e = .returned (.bool false) ∧ w'' = w') := fun w' => isNum_no st w' hs
    clear h hg hpk hs
    go_enter Tryz.func5, Tryz.ntmps5
    go_upto_region 1 with fail
    obtain ⟨w1, hw1⟩ : ∃ y, w.alloc (.cells (shA 0 ⟨#[]⟩ 0 none 0 0) 31) = y := ⟨_, rfl⟩
    obtain ⟨sb, hsb⟩ : ∃ y, w.heap.size = y := ⟨_, rfl⟩
    have HB1 : Hid (Below w.heap.size w w1) := by rw [← hw1]; exact (Below.refl _ _).alloc (Nat.le_refl _) _
    have HX1 : Hid (w1.heap[sb]? = some (.cells (shA 0 ⟨#[]⟩ 0 none 0 0) 31 (0, 0))) := by rw [← hw1, ← hsb]; exact heap_alloc_new _ _
    have HSB : Hid (w.heap.size = sb) := hsb
    rw [hw1, hsb]
    clear hw1 hsb
    obtain ⟨z0, z1, z2, z3⟩ := cells_4 HX1.out
    have zf := free_4 HX1.out
    go_wp2_with (first | (go_at_call 15; refine Calls.mono (HNU.out _) ?_; rintro e w2 ⟨rfl, rfl⟩) | fail)
    exact bodyPost_ret (results_cell_tmp rfl _ _ sb 31 (shA 0 ⟨#[]⟩ 0 none 0 0) (0, 0) _ (.int .i64 1) rfl rfl (fill_4 HX1.out) Tryz.underlying31 rfl (by kernel_rfl)) rfl (TakeE.no 1 (fillB_4 HB1.out (by rw [HSB.out]; exact Nat.le_refl _)))
  · rw [if_neg hs]
    have HNU : Hid (∀ w', Calls Tryz.prog 15 #[.int .i64 st] w' fun e w'' => e = .returned (.bool true) ∧ w'' = w') := fun w' => isNum_yes st w' (by omega) (by omega)
    by_cases hz : pc = 0
    · subst hz
      rw [if_neg (by simp)]
      clear h hg hpk hs
      go_enter Tryz.func5, Tryz.ntmps5
      go_upto_region 1 with fail
      obtain ⟨w1, hw1⟩ : ∃ y, w.alloc (.cells (shA 0 ⟨#[]⟩ 0 none 0 0) 31) = y := ⟨_, rfl⟩
      obtain ⟨sb, hsb⟩ : ∃ y, w.heap.size = y := ⟨_, rfl⟩
      have HB1 : Hid (Below w.heap.size w w1) := by rw [← hw1]; exact (Below.refl _ _).alloc (Nat.le_refl _) _
      have HX1 : Hid (w1.heap[sb]? = some (.cells (shA 0 ⟨#[]⟩ 0 none 0 0) 31 (0, 0))) := by rw [← hw1, ← hsb]; exact heap_alloc_new _ _
      have HSB : Hid (w.heap.size = sb) := hsb
      rw [hw1, hsb]
      clear hw1 hsb
      go_wp2_with (first | (go_at_call 15; refine Calls.mono (HNU.out _) ?_; rintro e w2 ⟨rfl, rfl⟩) | fail)
      refine Calls.mono (HPT.out _ HB1.out) ?_
      rintro e w3 ⟨pa, pcap, rfl, hr3, hb3⟩
      have HB3 : Hid (Below w.heap.size w w3) := trans2 HB1.out hb3
      have HX3 : Hid _ := kept_block hb3 HX1.out
      have HR3 : Hid (w3.ownsRow w2.heap.size 92 3 (.slice pa PL.length pcap) PL.length (PL.flatMap SnT.cs)) := hr3
      have hsl : sb < w2.heap.size := (Array.getElem?_eq_some_iff.1 HX1.out).1
      have hs1 := HB1.out.size
      clear hb3 hr3
      obtain ⟨PN, hPN⟩ : ∃ n, PL.length = n := ⟨_, rfl⟩
      have HPN : Hid (PL.length = PN) := hPN
      simp only [hPN]
      rw [hPN] at HR3
      clear hPN
      obtain ⟨z0, z1, z2, z3⟩ := cells_4 HX3.out
      have zf := free_4 HX3.out
      go_wp2_with fail
      refine Calls.mono (HCL.out (by simp) _) ?_
      rintro e w4 ⟨rfl, hb4⟩
      have HB4 : Hid (Below w.heap.size w w4) := trans2 HB3.out hb4
      have HX4 : Hid _ := kept_block hb4 HX3.out
      have HR4 : Hid (w4.ownsRow w2.heap.size 92 3 (.slice pa PN pcap) PN (PL.flatMap SnT.cs)) := owns_chg HR3.out (Chg.of_below hb4 (fun _ => False)) (fun _ _ => id)
      clear hb4 z0 z1 z2 z3 zf
      obtain ⟨z0, z1, z2, z3⟩ := cells_4 HX4.out
      have zf := free_4 HX4.out
      go_wp2_with fail
      have hrow : (put_4 w4 sb (.int .i64 st) (.string p) (.int .i64 k) (.slice pa PN pcap)).ownsRow w2.heap.size 92 3 (.slice pa PN pcap) PN (PL.flatMap SnT.cs) := owns_chg HR4.out putC_4 (fun j hj e => by
        have := (HR4.out.lt j hj).1
        have e' : j = sb := e
        omega)
      exact bodyPost_ret (results_cell_tmp rfl _ _ sb 31 (shA st p k pa PN pcap) (0, 0) _ (.int .i64 0) rfl rfl (fill_4 HX4.out) Tryz.underlying31 rfl (by kernel_rfl)) rfl ⟨pa, pcap, by rw [HPN.out], by rw [HPN.out]; exact ⟨hrow.1, hrow.2.imp id (fun ⟨g, cap, cur, h1, h2, r⟩ => ⟨g, cap, cur, h1, Nat.le_trans hs1 h2, r⟩)⟩, fillB_4 HB4.out (by rw [HSB.out]; exact Nat.le_refl _)⟩
    · have emc : (pc != 0) = true := by simpa using hz
      rw [if_pos hz]
      clear hz
      clear h hg hpk hs
      go_enter Tryz.func5, Tryz.ntmps5
      go_upto_region 1 with fail
      obtain ⟨w1, hw1⟩ : ∃ y, w.alloc (.cells (shA 0 ⟨#[]⟩ 0 none 0 0) 31) = y := ⟨_, rfl⟩
      obtain ⟨sb, hsb⟩ : ∃ y, w.heap.size = y := ⟨_, rfl⟩
      have HB1 : Hid (Below w.heap.size w w1) := by rw [← hw1]; exact (Below.refl _ _).alloc (Nat.le_refl _) _
      have HX1 : Hid (w1.heap[sb]? = some (.cells (shA 0 ⟨#[]⟩ 0 none 0 0) 31 (0, 0))) := by rw [← hw1, ← hsb]; exact heap_alloc_new _ _
      have HSB : Hid (w.heap.size = sb) := hsb
      rw [hw1, hsb]
      clear hw1 hsb
      go_wp2_with (first | (go_at_call 15; refine Calls.mono (HNU.out _) ?_; rintro e w2 ⟨rfl, rfl⟩) | fail)
      refine Calls.mono (HPT.out _ HB1.out) ?_
      rintro e w3 ⟨pa, pcap, rfl, hr3, hb3⟩
      have HB3 : Hid (Below w.heap.size w w3) := trans2 HB1.out hb3
      have HX3 : Hid _ := kept_block hb3 HX1.out
      have HR3 : Hid (w3.ownsRow w2.heap.size 92 3 (.slice pa PL.length pcap) PL.length (PL.flatMap SnT.cs)) := hr3
      have hsl : sb < w2.heap.size := (Array.getElem?_eq_some_iff.1 HX1.out).1
      have hs1 := HB1.out.size
      clear hb3 hr3
      obtain ⟨PN, hPN⟩ : ∃ n, PL.length = n := ⟨_, rfl⟩
      have HPN : Hid (PL.length = PN) := hPN
      simp only [hPN]
      rw [hPN] at HR3
      clear hPN
      obtain ⟨z0, z1, z2, z3⟩ := cells_4 HX3.out
      have zf := free_4 HX3.out
      go_wp2_with fail
      exact bodyPost_ret (results_cell_tmp rfl _ _ sb 31 (shA 0 ⟨#[]⟩ 0 none 0 0) (0, 0) _ (.int .i64 pc) rfl rfl (fill_4 HX3.out) Tryz.underlying31 rfl (by kernel_rfl)) rfl (TakeE.no pc (fillB_4 HB3.out (by rw [HSB.out]; exact Nat.le_refl _)))
end Go.Proofs.YtmbomdhhiioigaaGreatDoor
namespace Go.Proofs.YtmbomdhhiioigaaGreatDoor
open Go.RowKit Go.Maps Go.WideShapes
set_option linter.unusedVariables false
set_option linter.unusedSimpArgs false
attribute [local go_sem ↓] Go.wp_at_zero Go.wp_at_succ

set_option maxHeartbeats 8000000 in
set_option maxRecDepth 100000 in
theorem refTake_any (a : Option Addr) (c : Nat) (T : List Nd) (st : Int) (p : ByteArray) (k : Int) (w : World) (h : NdsAt w a T) (hS : Snd T) :
    Calls Tryz.prog 6 #[rtV a T.length c, .int .i64 st, .string p, .int .i64 k] w (TakeE w (takeH T st p k)) := by
  have HPT : Hid (∀ w', Below w.heap.size w w' → _) := fun w' hb => refPart_all a c T k p w' (h.below hb) hS
  have HIS : Hid (∀ w', Calls Tryz.prog 18 #[.string p] w' fun e w'' => e = .returned (.bool (isP p)) ∧ Below w'.heap.size w' w'') := fun w' => refIs_any p w'
  obtain ⟨N, hN⟩ : ∃ N, T.length = N := ⟨_, rfl⟩
  rw [hN] at HPT ⊢
  clear hN
  have hcase : ((st < 0 ∨ (¬ st < 0 ∧ 2147483647 < st)) ∧ takeH T st p k = ⟨1, 0, ⟨#[]⟩, 0, []⟩) ∨ (¬ st < 0 ∧ ¬ 2147483647 < st ∧ isP p = false ∧ takeH T st p k = ⟨10, 0, ⟨#[]⟩, 0, []⟩) ∨ (¬ st < 0 ∧ ¬ 2147483647 < st ∧ isP p = true ∧ (k < 1 ∨ (¬ k < 1 ∧ 3 < k)) ∧ takeH T st p k = ⟨1, 0, ⟨#[]⟩, 0, []⟩) ∨ (¬ st < 0 ∧ ¬ 2147483647 < st ∧ isP p = true ∧ ¬ k < 1 ∧ ¬ 3 < k ∧ (partM T k p).1 = 0 ∧ takeH T st p k = ⟨0, st, p, k, (partM T k p).2⟩) := by
    unfold takeH
    by_cases hs : st < 0 ∨ 2147483647 < st
    · exact .inl ⟨by omega, if_pos hs⟩
    · rw [if_neg hs]
      by_cases hp : (parse p).1 = 0
      · by_cases hk : k < 1 ∨ 3 < k
        · have e : partM T k p = (1, []) := by unfold partM; rw [if_neg (by simpa using hp), if_pos hk]
          rw [e]
          exact .inr (.inr (.inl ⟨by omega, by omega, by simpa [isP] using hp, by omega, rfl⟩))
        · have e : (partM T k p).1 = 0 := by unfold partM; rw [if_neg (by simpa using hp), if_neg hk]
          rw [if_neg (by simpa using e)]
          exact .inr (.inr (.inr ⟨by omega, by omega, by simpa [isP] using hp, by omega, by omega, e, rfl⟩))
      · have e : partM T k p = (10, []) := by unfold partM; rw [if_pos hp]
        rw [e]
        exact .inr (.inl ⟨by omega, by omega, by simpa [isP] using hp, rfl⟩)
  obtain ⟨PM, hPM⟩ : ∃ PM, partM T k p = PM := ⟨_, rfl⟩
  obtain ⟨H, hH⟩ : ∃ H, takeH T st p k = H := ⟨_, rfl⟩
  rw [hPM] at HPT hcase
  rw [hH] at hcase ⊢
  clear hPM hH h hS
  obtain ⟨pc, PL⟩ := PM
  obtain ⟨PN, hPN⟩ : ∃ n, PL.length = n := ⟨_, rfl⟩
  have HPN : Hid (PL.length = PN) := hPN
  simp only [hPN] at HPT
  clear hPN
  go_enter Tryz.func6, Tryz.ntmps6
  go_upto_region 1 with fail
  obtain ⟨w1, hw1⟩ : ∃ y, (w.alloc (.cells #[.slice a N c] 26)).alloc (.cells (shA 0 ⟨#[]⟩ 0 none 0 0) 31) = y := ⟨_, rfl⟩
  obtain ⟨tb, htb⟩ : ∃ y, w.heap.size = y := ⟨_, rfl⟩
  have HB1 : Hid (Below w.heap.size w w1) := by rw [← hw1]; exact ((Below.refl _ _).alloc (Nat.le_refl _) _).alloc (by simp) _
  have HX1 : Hid (w1.heap[tb]? = some (.cells #[.slice a N c] 26 (0, 0))) := by rw [← hw1, ← htb]; exact heap_alloc2_old _ _ _
  have HY1 : Hid (w1.heap[tb + 1]? = some (.cells (shA 0 ⟨#[]⟩ 0 none 0 0) 31 (0, 0))) := by rw [← hw1, ← htb]; exact heap_alloc2_new _ _ _
  have HTB : Hid (w.heap.size = tb) := htb
  have hlo : w.heap.size ≤ tb + 1 := by omega
  have htl : tb + 1 < w1.heap.size := (Array.getElem?_eq_some_iff.1 HY1.out).1
  have hs1 := HB1.out.size
  rw [hw1, htb]
  clear hw1 htb
  obtain ⟨z0, z1, z2, z3⟩ := cells_4 HY1.out
  have zf := free_4 HY1.out
  rcases hcase with ⟨c1 | ⟨c1, c2⟩, rfl⟩ | ⟨c1, c2, hp, rfl⟩ | ⟨c1, c2, hp, c3 | ⟨c3, c4⟩, rfl⟩ | ⟨c1, c2, hp, c3, c4, hpc, rfl⟩
  · go_wp2_with fail
    exact bodyPost_ret (results_cell_tmp rfl _ _ (tb + 1) 31 (shA 0 ⟨#[]⟩ 0 none 0 0) (0, 0) _ (.int .i64 1) rfl rfl (fill_4 HY1.out) Tryz.underlying31 rfl (by kernel_rfl)) rfl (TakeE.no 1 (fillB_4 HB1.out hlo))
  · go_wp2_with fail
    exact bodyPost_ret (results_cell_tmp rfl _ _ (tb + 1) 31 (shA 0 ⟨#[]⟩ 0 none 0 0) (0, 0) _ (.int .i64 1) rfl rfl (fill_4 HY1.out) Tryz.underlying31 rfl (by kernel_rfl)) rfl (TakeE.no 1 (fillB_4 HB1.out hlo))
  · rw [hp] at HIS
    go_wp2_with fail
    refine Calls.mono (HIS.out _) ?_
    rintro e w2 ⟨rfl, hb2⟩
    have HB2 : Hid (Below w.heap.size w w2) := trans2 HB1.out hb2
    have HY2 : Hid _ := kept_block hb2 HY1.out
    clear hb2 z0 z1 z2 z3 zf
    obtain ⟨z0, z1, z2, z3⟩ := cells_4 HY2.out
    have zf := free_4 HY2.out
    go_wp2_with fail
    exact bodyPost_ret (results_cell_tmp rfl _ _ (tb + 1) 31 (shA 0 ⟨#[]⟩ 0 none 0 0) (0, 0) _ (.int .i64 10) rfl rfl (fill_4 HY2.out) Tryz.underlying31 rfl (by kernel_rfl)) rfl (TakeE.no 10 (fillB_4 HB2.out hlo))
  · rw [hp] at HIS
    go_wp2_with fail
    refine Calls.mono (HIS.out _) ?_
    rintro e w2 ⟨rfl, hb2⟩
    have HB2 : Hid (Below w.heap.size w w2) := trans2 HB1.out hb2
    have HY2 : Hid _ := kept_block hb2 HY1.out
    clear hb2 z0 z1 z2 z3 zf
    obtain ⟨z0, z1, z2, z3⟩ := cells_4 HY2.out
    have zf := free_4 HY2.out
    go_wp2_with fail
    exact bodyPost_ret (results_cell_tmp rfl _ _ (tb + 1) 31 (shA 0 ⟨#[]⟩ 0 none 0 0) (0, 0) _ (.int .i64 1) rfl rfl (fill_4 HY2.out) Tryz.underlying31 rfl (by kernel_rfl)) rfl (TakeE.no 1 (fillB_4 HB2.out hlo))
  · rw [hp] at HIS
    go_wp2_with fail
    refine Calls.mono (HIS.out _) ?_
    rintro e w2 ⟨rfl, hb2⟩
    have HB2 : Hid (Below w.heap.size w w2) := trans2 HB1.out hb2
    have HY2 : Hid _ := kept_block hb2 HY1.out
    clear hb2 z0 z1 z2 z3 zf
    obtain ⟨z0, z1, z2, z3⟩ := cells_4 HY2.out
    have zf := free_4 HY2.out
    go_wp2_with fail
    exact bodyPost_ret (results_cell_tmp rfl _ _ (tb + 1) 31 (shA 0 ⟨#[]⟩ 0 none 0 0) (0, 0) _ (.int .i64 1) rfl rfl (fill_4 HY2.out) Tryz.underlying31 rfl (by kernel_rfl)) rfl (TakeE.no 1 (fillB_4 HB2.out hlo))
  · rw [hp] at HIS
    go_wp2_with fail
    refine Calls.mono (HIS.out _) ?_
    rintro e w2 ⟨rfl, hb2⟩
    have HB2 : Hid (Below w.heap.size w w2) := trans2 HB1.out hb2
    have HB12 : Hid (Below w1.heap.size w1 w2) := hb2
    have HX2 : Hid _ := kept_block hb2 HX1.out
    have HY2 : Hid _ := kept_block hb2 HY1.out
    clear hb2 z0 z1 z2 z3 zf
    have t0 := cells_1 HX2.out
    go_wp2_with fail
    refine Calls.mono (HPT.out _ HB2.out) ?_
    rintro e w3 ⟨v3, rfl, hr3, hb3⟩
    obtain ⟨pa, pcap, rfl⟩ := slice_of' hr3
    have HB3 : Hid (Below w.heap.size w w3) := trans2 HB2.out hb3
    have HY3 : Hid _ := kept_block hb3 HY2.out
    have HR3 : Hid (w3.ownsRow w2.heap.size 92 3 (.slice pa PN pcap) PN (PL.flatMap SnT.cs)) := hr3
    have hs2 := HB12.out.size
    clear hb3 hr3 t0
    obtain ⟨z0, z1, z2, z3⟩ := cells_4 HY3.out
    have zf := free_4 HY3.out
    go_wp2_with fail
    have hrow : (put_4 w3 (tb + 1) (.int .i64 st) (.string p) (.int .i64 k) (.slice pa PN pcap)).ownsRow w2.heap.size 92 3 (.slice pa PN pcap) PN (PL.flatMap SnT.cs) := owns_chg HR3.out putC_4 (fun j hj e => by
      have := (HR3.out.lt j hj).1
      have e' : j = tb + 1 := e
      omega)
    exact bodyPost_ret (results_cell_tmp rfl _ _ (tb + 1) 31 (shA st p k pa PN pcap) (0, 0) _ (.int .i64 0) rfl rfl (fill_4 HY3.out) Tryz.underlying31 rfl (by kernel_rfl)) rfl ⟨pa, pcap, by rw [HPN.out], by rw [HPN.out]; exact ⟨hrow.1, hrow.2.imp id (fun ⟨g, cap, cur, h1, h2, r⟩ => ⟨g, cap, cur, h1, Nat.le_trans (Nat.le_trans hs1 hs2) h2, r⟩)⟩, fillB_4 HB3.out hlo⟩
theorem sn_cell' {w : World} {B g cap n : Nat} {L : List SnT} (h : w.ownsRow B 92 3 (.slice (some ⟨g, 0, none⟩) n cap) n (L.flatMap SnT.cs)) {q j : Nat} {x : SnT} {v : Value} (hx : L[q]? = some x) (hv : x.cs[j]? = some v) : w.cell? ⟨g, q * 3 + j, none⟩ = some v := Fa.cell_n h (Fa.flat_at (cells := SnT.cs) (fun _ => rfl) hx hv)
set_option maxHeartbeats 6400000 in
set_option maxRecDepth 100000 in
theorem sameK_any (B1 B2 : Nat) (st : Int) (p : ByteArray) (k : Int) (a b : Option Addr) (c d : Nat) (L : List SnT) (w : World) (h1 : w.ownsRow B1 92 3 (.slice a L.length c) L.length (L.flatMap SnT.cs)) (h2 : w.ownsRow B2 92 3 (.slice b L.length d) L.length (L.flatMap SnT.cs)) (hl : L.length ≤ 1000) :
    Calls Tryz.prog 20 #[.agg (shA st p k a L.length c), .agg (shA st p k b L.length d)] w fun e w' => e = .returned (.bool true) ∧ Below w.heap.size w w' := by
  have H1 : Hid _ := h1
  have H2 : Hid _ := h2
  obtain ⟨N, hN⟩ : ∃ N, L.length = N := ⟨_, rfl⟩
  have HN : Hid (L.length = N) := hN
  rw [hN] at hl H1 H2 ⊢
  clear h1 h2 hN
  go_enter Tryz.func20, Tryz.ntmps20
  go_upto_region 1 with fail
  obtain ⟨w2, hw2⟩ : ∃ y, (w.alloc (.cells (shA st p k a N c) 31)).alloc (.cells (shA st p k b N d) 31) = y := ⟨_, rfl⟩
  obtain ⟨sb, hsb⟩ : ∃ y, w.heap.size = y := ⟨_, rfl⟩
  have HB2 : Hid (Below w.heap.size w w2) := by rw [← hw2]; exact ((Below.refl _ _).alloc (Nat.le_refl _) _).alloc (by simp) _
  have HS2 : Hid (w2.heap[sb]? = some (.cells (shA st p k a N c) 31 (0, 0))) := by rw [← hw2, ← hsb]; exact heap_alloc2_old _ _ _
  have HR2 : Hid (w2.heap[sb + 1]? = some (.cells (shA st p k b N d) 31 (0, 0))) := by rw [← hw2, ← hsb]; exact heap_alloc2_new _ _ _
  rw [hw2, hsb]
  clear hw2 hsb
  obtain ⟨s0, s1, s2, s3⟩ := cells_4 HS2.out
  obtain ⟨r0, r1, r2, r3⟩ := cells_4 HR2.out
  go_wp2_with fail
  clear s0 s1 s2 s3 r0 r1 r2 r3
  go_loopw [5] (fun i wr => ∃ q : Nat, i = .int .i64 q ∧ q ≤ N ∧ Hid (Below w2.heap.size w2 wr)) (fun i _ => N - (intOf i).toNat)
  case atStart => exact ⟨0, rfl, Nat.zero_le _, Below.refl _ _⟩
  case round =>
    obtain ⟨q, rfl, hq, HB⟩ := hrel
    have HS3 : Hid _ := kept_block HB.out HS2.out
    have HR3 : Hid _ := kept_block HB.out HR2.out
    obtain ⟨s0, s1, s2, s3⟩ := cells_4 HS3.out
    obtain ⟨r0, r1, r2, r3⟩ := cells_4 HR3.out
    by_cases hlt : q < N
    · have hlt' : (q : Int) < (N : Int) := by omega
      obtain ⟨x, hx⟩ : ∃ x, L[q]? = some x := ⟨L[q]'(by rw [HN.out]; exact hlt), List.getElem?_eq_getElem _⟩
      have hbw : Below w.heap.size w wr := trans2 HB2.out HB.out
      obtain ⟨g1, d1, e1⟩ := form_n H1.out (by omega)
      obtain ⟨g2, d2, e2⟩ := form_n H2.out (by omega)
      obtain ⟨rfl, rfl⟩ : a = some ⟨g1, 0, none⟩ ∧ c = d1 := by simpa using e1
      obtain ⟨rfl, rfl⟩ : b = some ⟨g2, 0, none⟩ ∧ d = d2 := by simpa using e2
      have l1 : g1 < w.heap.size := (World.ownsRow.lt H1.out g1 rfl).2
      have l2 : g2 < w.heap.size := (World.ownsRow.lt H2.out g2 rfl).2
      have hk1 : ∀ j v, x.cs[j]? = some v → wr.cell? ⟨g1, q * 3 + j, none⟩ = some v := fun j v hv => by rw [hbw.cell (p := ⟨g1, q * 3 + j, none⟩) l1]; exact sn_cell' H1.out hx hv
      have hk2 : ∀ j v, x.cs[j]? = some v → wr.cell? ⟨g2, q * 3 + j, none⟩ = some v := fun j v hv => by rw [hbw.cell (p := ⟨g2, q * 3 + j, none⟩) l2]; exact sn_cell' H2.out hx hv
      have k0 : wr.cell? ⟨g1, q * 3, none⟩ = some (.string x.p) := hk1 0 _ rfl
      have k1 := hk1 1 _ rfl
      have k2 := hk1 2 _ rfl
      have m0 : wr.cell? ⟨g2, q * 3, none⟩ = some (.string x.p) := hk2 0 _ rfl
      have m1 := hk2 1 _ rfl
      have m2 := hk2 2 _ rfl
      clear hx e1 e2 hk1 hk2 hbw
      go_upto_region 6 with fail
      go_quiet (fail)
      go_wp2_with fail
      go_roundw
      case rel => exact ⟨q + 1, by go_num, by omega, below_dN HB.out _⟩
      case measure => simp [intOf]; omega
    · obtain rfl : q = N := by omega
      go_wp2_with fail
      go_ret
      exact ⟨rfl, trans2 HB2.out HB.out⟩
set_option maxHeartbeats 3200000 in
set_option maxRecDepth 100000 in
theorem alikeK_any (B1 B2 : Nat) (st : Int) (p : ByteArray) (k : Int) (a b : Option Addr) (c d : Nat) (L : List SnT) (w : World) (h1 : w.ownsRow B1 92 3 (.slice a L.length c) L.length (L.flatMap SnT.cs)) (h2 : w.ownsRow B2 92 3 (.slice b L.length d) L.length (L.flatMap SnT.cs)) (hl : L.length ≤ 1000) :
    Calls Tryz.prog 9 #[.agg (shA st p k a L.length c), .agg (shA st p k b L.length d)] w fun e w' => e = .returned (.bool true) ∧ Below w.heap.size w w' := by
  have HSA : Hid (∀ w', Below w.heap.size w w' → _) := fun w' hb => sameK_any B1 B2 st p k a b c d L w' (owns_chg h1 (Chg.of_below hb (fun _ => False)) (fun _ _ => id)) (owns_chg h2 (Chg.of_below hb (fun _ => False)) (fun _ _ => id)) hl
  obtain ⟨N, hN⟩ : ∃ N, L.length = N := ⟨_, rfl⟩
  rw [hN] at HSA ⊢
  clear h1 h2 hN hl
  go_enter Tryz.func9, Tryz.ntmps9
  go_upto_region 1 with fail
  obtain ⟨w2, hw2⟩ : ∃ y, (w.alloc (.cells (shA st p k a N c) 31)).alloc (.cells (shA st p k b N d) 31) = y := ⟨_, rfl⟩
  obtain ⟨sb, hsb⟩ : ∃ y, w.heap.size = y := ⟨_, rfl⟩
  have HB2 : Hid (Below w.heap.size w w2) := by rw [← hw2]; exact ((Below.refl _ _).alloc (Nat.le_refl _) _).alloc (by simp) _
  have HS2 : Hid (w2.heap[sb]? = some (.cells (shA st p k a N c) 31 (0, 0))) := by rw [← hw2, ← hsb]; exact heap_alloc2_old _ _ _
  have HR2 : Hid (w2.heap[sb + 1]? = some (.cells (shA st p k b N d) 31 (0, 0))) := by rw [← hw2, ← hsb]; exact heap_alloc2_new _ _ _
  rw [hw2, hsb]
  clear hw2 hsb
  obtain ⟨s0, s1, s2, s3⟩ := cells_4 HS2.out
  obtain ⟨r0, r1, r2, r3⟩ := cells_4 HR2.out
  go_wp2_with fail
  refine Calls.mono (HSA.out _ HB2.out) ?_
  rintro e w3 ⟨rfl, hb3⟩
  have HB3 : Hid (Below w.heap.size w w3) := trans2 HB2.out hb3
  clear hb3 s0 s1 s2 s3 r0 r1 r2 r3
  go_wp2_with fail
  go_ret
  exact ⟨rfl, HB3.out⟩
end Go.Proofs.YtmbomdhhiioigaaGreatDoor
namespace Go.Proofs.YtmbomdhhiioigaaGreatDoor
open Go.RowKit Go.Maps Go.WideShapes
set_option linter.unusedVariables false
set_option linter.unusedSimpArgs false

theorem take_root : takeH [rootN] 3 ⟨#[47]⟩ 1 = ⟨0, 3, ⟨#[47]⟩, 1, [⟨⟨#[47]⟩, ⟨#[]⟩, 0⟩]⟩ := by kernel_rfl
set_option maxHeartbeats 8000000 in
set_option maxRecDepth 100000 in
theorem ShotTakes_walk (W : World) (a : Option Addr) (c : Nat) (l : List TuT) (st : Int) (p : ByteArray) (k : Int) (hl : l.length ≤ maxLen) (hs : Turns W a l) (hg : GroundT W) (hgc : GroundC W) :
    Calls Tryz.prog 3 #[.slice a l.length c, .int .i64 st, .string p, .int .i64 k] W fun e w' => e = .returned (.bool true) ∧ Below W.heap.size W w' := by
  have HGW : Hid _ := grown_any W a c l hl hs hg hgc
  have HG : Hid (GroundT W) := hg
  obtain ⟨N, hN⟩ : ∃ N, l.length = N := ⟨_, rfl⟩
  rw [hN] at HGW ⊢
  clear hl hs hg hgc hN
  go_enter Tryz.func3, Tryz.ntmps3
  go_wp2_with fail
  refine Calls.mono HGW.out ?_
  rintro e w1 ⟨tb, q, a1, c1, T, rfl, hgr⟩
  have HGR : Hid (Gr W w1 tb q a1 T) := hgr
  have hT64 : T.length ≤ 64 := hgr.tr.snd.inv.len
  have hlen := takeH_len T st p k
  obtain ⟨TN, hTN⟩ : ∃ n, T.length = n := ⟨_, rfl⟩
  have HTN : Hid (T.length = TN) := hTN
  simp only [hTN]
  clear hgr hTN
  go_upto_region 2 with fail
  obtain ⟨w2, hw2⟩ : ∃ y, w1.alloc (.cells #[.slice a1 TN c1] 26) = y := ⟨_, rfl⟩
  obtain ⟨ub, hub⟩ : ∃ y, w1.heap.size = y := ⟨_, rfl⟩
  have hb2 : Below w1.heap.size w1 w2 := by rw [← hw2]; exact (Below.refl _ _).alloc (Nat.le_refl _) _
  have HG2 : Hid (Gr W w2 tb q a1 T) := HGR.out.below hb2
  have HU2 : Hid (w2.heap[ub]? = some (.cells #[.slice a1 TN c1] 26 (0, 0))) := by rw [← hw2, ← hub]; exact heap_alloc_new _ _
  rw [hw2, hub]
  clear hw2 hub hb2
  have HT2 : Hid _ := takeT_any W.heap.size tb q T st p k w2 (HG.out.below HG2.out.low).toGround HG2.out.tr
  have HRT : Hid (∀ w', Below w2.heap.size w2 w' → Calls Tryz.prog 6 #[rtV a1 TN c1, .int .i64 st, .string p, .int .i64 k] w' (TakeE w' (takeH T st p k))) := fun w' hb => by
    have h9 := refTake_any a1 c1 T st p k w' (HG2.out.nds.below hb) HG2.out.tr.snd
    rw [HTN.out] at h9
    exact h9
  obtain ⟨TK, hTK⟩ : ∃ TK, takeH T st p k = TK := ⟨_, rfl⟩
  rw [hTK] at HT2 HRT hlen
  clear hTK
  obtain ⟨code, st', p', k', L⟩ := TK
  have hl64 : L.length ≤ 64 := Nat.le_trans hlen hT64
  obtain ⟨LN, hLN⟩ : ∃ n, L.length = n := ⟨_, rfl⟩
  have HLN : Hid (L.length = LN) := hLN
  clear hlen
  go_wp2_with fail
  refine Calls.mono HT2.out ?_
  rintro e w3 ⟨xa, xc, rfl, hr3, hb3⟩
  have HG3 : Hid (Gr W w3 tb q a1 T) := HG2.out.below hb3
  have HU3 : Hid _ := kept_block hb3 HU2.out
  have HB23 : Hid (Below w2.heap.size w2 w3) := hb3
  have HR3 : Hid (w3.ownsRow w2.heap.size 92 3 (.slice xa L.length xc) L.length (L.flatMap SnT.cs)) := hr3
  clear hr3 hb3
  simp only [hLN]
  go_upto_region 3 with fail
  obtain ⟨w4, hw4⟩ : ∃ y, w3.alloc (.cells (shA st' p' k' xa LN xc) 31) = y := ⟨_, rfl⟩
  obtain ⟨xb, hxb⟩ : ∃ y, w3.heap.size = y := ⟨_, rfl⟩
  have hb4 : Below w3.heap.size w3 w4 := by rw [← hw4]; exact (Below.refl _ _).alloc (Nat.le_refl _) _
  have HG4 : Hid (Gr W w4 tb q a1 T) := HG3.out.below hb4
  have HU4 : Hid _ := kept_block hb4 HU3.out
  have HB24 : Hid (Below w2.heap.size w2 w4) := trans2 HB23.out hb4
  have HR4 : Hid (w4.ownsRow w2.heap.size 92 3 (.slice xa L.length xc) L.length (L.flatMap SnT.cs)) := owns_chg HR3.out (Chg.of_below hb4 (fun _ => False)) (fun _ _ => id)
  have HX4 : Hid (w4.heap[xb]? = some (.cells (shA st' p' k' xa LN xc) 31 (0, 0))) := by rw [← hw4, ← hxb]; exact heap_alloc_new _ _
  rw [hw4, hxb]
  clear hw4 hxb hb4
  have u0 := cells_1 HU4.out
  go_wp2_with fail
  refine Calls.mono (HRT.out _ HB24.out) ?_
  rintro e w5 ⟨ya, yc, rfl, hr5, hb5⟩
  have HG5 : Hid (Gr W w5 tb q a1 T) := HG4.out.below hb5
  have HR5 : Hid (w5.ownsRow w2.heap.size 92 3 (.slice xa L.length xc) L.length (L.flatMap SnT.cs)) := owns_chg HR4.out (Chg.of_below hb5 (fun _ => False)) (fun _ _ => id)
  have HQ5 : Hid (w5.ownsRow w4.heap.size 92 3 (.slice ya L.length yc) L.length (L.flatMap SnT.cs)) := hr5
  have HX5 : Hid _ := kept_block hb5 HX4.out
  clear hr5 hb5 u0
  simp only [hLN]
  go_upto_region 4 with fail
  obtain ⟨w6, hw6⟩ : ∃ y, w5.alloc (.cells (shA st' p' k' ya LN yc) 31) = y := ⟨_, rfl⟩
  obtain ⟨yb, hyb⟩ : ∃ y, w5.heap.size = y := ⟨_, rfl⟩
  have hb6 : Below w5.heap.size w5 w6 := by rw [← hw6]; exact (Below.refl _ _).alloc (Nat.le_refl _) _
  have HB6 : Hid (Below W.heap.size W w6) := trans2 HG5.out.low hb6
  have HR6 : Hid (w6.ownsRow w2.heap.size 92 3 (.slice xa L.length xc) L.length (L.flatMap SnT.cs)) := owns_chg HR5.out (Chg.of_below hb6 (fun _ => False)) (fun _ _ => id)
  have HQ6 : Hid (w6.ownsRow w4.heap.size 92 3 (.slice ya L.length yc) L.length (L.flatMap SnT.cs)) := owns_chg HQ5.out (Chg.of_below hb6 (fun _ => False)) (fun _ _ => id)
  have HX6 : Hid _ := kept_block hb6 HX5.out
  have HY6 : Hid (w6.heap[yb]? = some (.cells (shA st' p' k' ya LN yc) 31 (0, 0))) := by rw [← hw6, ← hyb]; exact heap_alloc_new _ _
  rw [hw6, hyb]
  clear hw6 hyb hb6
  go_wp2_with fail
  refine Calls.mono (take_nil st p k w6) ?_
  rintro e w7 ⟨na, nc, rfl, _, hb7⟩
  have HB7 : Hid (Below W.heap.size W w7) := trans2 HB6.out hb7
  have HB67 : Hid (Below w6.heap.size w6 w7) := hb7
  clear hb7
  go_upto_region 5 with fail
  obtain ⟨w8, hw8⟩ : ∃ y, w7.alloc (.cells (shA 0 ⟨#[]⟩ 0 na 0 nc) 31) = y := ⟨_, rfl⟩
  have hb8 : Below w7.heap.size w7 w8 := by rw [← hw8]; exact (Below.refl _ _).alloc (Nat.le_refl _) _
  have HB8 : Hid (Below W.heap.size W w8) := trans2 HB7.out hb8
  have HB68 : Hid (Below w6.heap.size w6 w8) := trans2 HB67.out hb8
  obtain ⟨nb, hnb⟩ : ∃ y, w7.heap.size = y := ⟨_, rfl⟩
  rw [hw8, hnb]
  clear hw8 hb8 hnb
  go_wp2_with fail
  refine Calls.mono (new_tr w8) ?_
  rintro e w9 ⟨tb9, rfl, ht9, hb9⟩
  have HB9 : Hid (Below W.heap.size W w9) := trans2 HB8.out hb9
  have HB69 : Hid (Below w6.heap.size w6 w9) := trans2 HB68.out hb9
  have HT9 : Hid _ := takeT_any w8.heap.size tb9 0 [rootN] 3 ⟨#[47]⟩ 1 w9 (HG.out.below HB9.out).toGround ht9
  rw [take_root] at HT9
  clear ht9 hb9
  go_wp2_with fail
  refine Calls.mono HT9.out ?_
  rintro e w10 ⟨za, zc, rfl, _, hb10⟩
  have HB10 : Hid (Below W.heap.size W w10) := trans2 HB9.out hb10
  have HB610 : Hid (Below w6.heap.size w6 w10) := trans2 HB69.out hb10
  clear hb10
  go_upto_region 6 with fail
  obtain ⟨w11, hw11⟩ : ∃ y, w10.alloc (.cells (shA 3 ⟨#[47]⟩ 1 za 1 zc) 31) = y := ⟨_, rfl⟩
  obtain ⟨zb, hzb⟩ : ∃ y, w10.heap.size = y := ⟨_, rfl⟩
  have hb11 : Below w10.heap.size w10 w11 := by rw [← hw11]; exact (Below.refl _ _).alloc (Nat.le_refl _) _
  have HB11 : Hid (Below W.heap.size W w11) := trans2 HB10.out hb11
  have HB611 : Hid (Below w6.heap.size w6 w11) := trans2 HB610.out hb11
  have HZ11 : Hid (w11.heap[zb]? = some (.cells (shA 3 ⟨#[47]⟩ 1 za 1 zc) 31 (0, 0))) := by rw [← hw11, ← hzb]; exact heap_alloc_new _ _
  have HX11 : Hid _ := kept_block HB611.out HX6.out
  have HY11 : Hid _ := kept_block HB611.out HY6.out
  have HAL : Hid (Calls Tryz.prog 9 #[.agg (shA st' p' k' xa LN xc), .agg (shA st' p' k' ya LN yc)] w11 fun e w' => e = .returned (.bool true) ∧ Below w11.heap.size w11 w') := by
    have h9 := alikeK_any w2.heap.size w4.heap.size st' p' k' xa ya xc yc L w11 (owns_chg HR6.out (Chg.of_below HB611.out (fun _ => False)) (fun _ _ => id)) (owns_chg HQ6.out (Chg.of_below HB611.out (fun _ => False)) (fun _ _ => id)) (by omega)
    rw [HLN.out] at h9
    exact h9
  rw [hw11, hzb]
  clear hw11 hzb hb11
  obtain ⟨x0, x1, x2, x3⟩ := cells_4 HX11.out
  obtain ⟨y0, y1, y2, y3⟩ := cells_4 HY11.out
  go_wp2_with (first | (go_at_call 8; go_in) | fail)
  refine Calls.mono HAL.out ?_
  rintro e w12 ⟨rfl, hb12⟩
  have HB12 : Hid (Below W.heap.size W w12) := trans2 HB11.out hb12
  have HZ12 : Hid _ := kept_block hb12 HZ11.out
  clear hb12 x0 x1 x2 x3 y0 y1 y2 y3
  obtain ⟨z0, z1, z2, z3⟩ := cells_4 HZ12.out
  go_wp2_with fail
  go_ret
  exact ⟨rfl, HB12.out⟩
end Go.Proofs.YtmbomdhhiioigaaGreatDoor
