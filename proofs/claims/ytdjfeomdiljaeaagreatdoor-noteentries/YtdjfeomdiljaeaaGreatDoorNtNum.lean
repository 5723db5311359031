/-
  note: checks of numbers by their fields; what empties a view and a reply.
-/
import Derived.Test.YtdjfeomdiljaeaaGreatDoorNtAt
namespace Go.Proofs.YtdjfeomdiljaeaaGreatDoor
open Go.RowKit
set_option linter.unusedVariables false
set_option linter.unusedSimpArgs false

set_option maxHeartbeats 3200000 in
theorem numck_num (low : Int) (W : World) (b s t : Nat) (N : NoN) (hN : NB W b N) (hs : W.cell? ⟨s, 0, none⟩ = some (.func (.func 116) #[] #[])) (ht : W.cell? ⟨t, 0, none⟩ = some (.int .i64 low)) :
    Calls Tryz.prog 171 #[.pointer (some ⟨b, 0, none⟩), .pointer (some ⟨s, 0, none⟩), .pointer (some ⟨t, 0, none⟩)] W (CK (low ≤ N.num ∧ N.num ≤ 2147483647) W) := by
  obtain ⟨ok, hok⟩ : ∃ ok : Prop, (low ≤ N.num ∧ N.num ≤ 2147483647) = ok := ⟨_, rfl⟩
  have HOK : Hid (ok = (low ≤ N.num ∧ N.num ≤ 2147483647)) := hok.symm
  rw [hok]
  clear hok
  have hc := hN.cell (i := 1) (v := .int .i64 N.num) rfl
  obtain ⟨v, hv⟩ : ∃ v, N.num = v := ⟨_, rfl⟩
  have HV : Hid (N.num = v) := hv
  rw [hv] at hc
  clear hN hv
  go_enter Tryz.func171, Tryz.ntmps171
  go_wp2_with fail
  go_region_held2 (fun V => V.cell? ⟨s, 0, none⟩ = some (.func (.func 116) #[] #[]) ∧ V.cell? ⟨t, 0, none⟩ = some (.int .i64 low) ∧ V.cell? ⟨b, 1, none⟩ = some (.int .i64 v))
    (first
    | exact ⟨hs, ht, hc⟩
    | go_keep)
    (first
    | (go_at_call 116; refine Calls.mono (at_num.says _ b) ?_; rintro e w2 ⟨rfl, hw2⟩; rw [hw2]; clear hw2)
    | (go_at_call 67; refine Calls.mono (number_ck _ _ _) ?_; rintro e w1 ⟨⟨rfl, h⟩ | ⟨rfl, h⟩, hb⟩
       rotate_left
       · exact ⟨rfl, .inr ⟨rfl, by rw [HOK.out, HV.out]; exact fun g => h g⟩, below_of (below_drew (Below.refl _ _)) hb⟩
       have H0 : Hid (low ≤ v ∧ v ≤ 2147483647) := h
       have HB1 : Hid (Below W.heap.size W w1) := below_of (below_drew (Below.refl _ _)) hb
       have hs1 : w1.cell? ⟨s, 0, none⟩ = some (.func (.func 116) #[] #[]) := by rw [HB1.out.cell (p := ⟨s, 0, none⟩) (World.block_lt_of_cell? _ _ hs)]; exact hs
       have ht1 : w1.cell? ⟨t, 0, none⟩ = some (.int .i64 low) := by rw [HB1.out.cell (p := ⟨t, 0, none⟩) (World.block_lt_of_cell? _ _ ht)]; exact ht
       have hc1 : w1.cell? ⟨b, 1, none⟩ = some (.int .i64 v) := by rw [HB1.out.cell (p := ⟨b, 1, none⟩) (World.block_lt_of_cell? _ _ hc)]; exact hc
       clear h hb hs ht hc)
    | fail)
  go_wp2_with fail
  exact bodyPost_end (results_none rfl _ _ _) rfl ⟨.inl ⟨rfl, by rw [HOK.out, HV.out]; exact H0.out⟩, HB1.out⟩
set_option maxHeartbeats 3200000 in
theorem numck_se (low : Int) (W : World) (b s t : Nat) (N : NoN) (hN : NB W b N) (hs : W.cell? ⟨s, 0, none⟩ = some (.func (.func 117) #[] #[])) (ht : W.cell? ⟨t, 0, none⟩ = some (.int .i64 low)) :
    Calls Tryz.prog 171 #[.pointer (some ⟨b, 0, none⟩), .pointer (some ⟨s, 0, none⟩), .pointer (some ⟨t, 0, none⟩)] W (CK (low ≤ N.se ∧ N.se ≤ 2147483647) W) := by
  obtain ⟨ok, hok⟩ : ∃ ok : Prop, (low ≤ N.se ∧ N.se ≤ 2147483647) = ok := ⟨_, rfl⟩
  have HOK : Hid (ok = (low ≤ N.se ∧ N.se ≤ 2147483647)) := hok.symm
  rw [hok]
  clear hok
  have hc := hN.cell (i := 4) (v := .int .i64 N.se) rfl
  obtain ⟨v, hv⟩ : ∃ v, N.se = v := ⟨_, rfl⟩
  have HV : Hid (N.se = v) := hv
  rw [hv] at hc
  clear hN hv
  go_enter Tryz.func171, Tryz.ntmps171
  go_wp2_with fail
  go_region_held2 (fun V => V.cell? ⟨s, 0, none⟩ = some (.func (.func 117) #[] #[]) ∧ V.cell? ⟨t, 0, none⟩ = some (.int .i64 low) ∧ V.cell? ⟨b, 4, none⟩ = some (.int .i64 v))
    (first
    | exact ⟨hs, ht, hc⟩
    | go_keep)
    (first
    | (go_at_call 117; refine Calls.mono (at_se.says _ b) ?_; rintro e w2 ⟨rfl, hw2⟩; rw [hw2]; clear hw2)
    | (go_at_call 67; refine Calls.mono (number_ck _ _ _) ?_; rintro e w1 ⟨⟨rfl, h⟩ | ⟨rfl, h⟩, hb⟩
       rotate_left
       · exact ⟨rfl, .inr ⟨rfl, by rw [HOK.out, HV.out]; exact fun g => h g⟩, below_of (below_drew (Below.refl _ _)) hb⟩
       have H0 : Hid (low ≤ v ∧ v ≤ 2147483647) := h
       have HB1 : Hid (Below W.heap.size W w1) := below_of (below_drew (Below.refl _ _)) hb
       have hs1 : w1.cell? ⟨s, 0, none⟩ = some (.func (.func 117) #[] #[]) := by rw [HB1.out.cell (p := ⟨s, 0, none⟩) (World.block_lt_of_cell? _ _ hs)]; exact hs
       have ht1 : w1.cell? ⟨t, 0, none⟩ = some (.int .i64 low) := by rw [HB1.out.cell (p := ⟨t, 0, none⟩) (World.block_lt_of_cell? _ _ ht)]; exact ht
       have hc1 : w1.cell? ⟨b, 4, none⟩ = some (.int .i64 v) := by rw [HB1.out.cell (p := ⟨b, 4, none⟩) (World.block_lt_of_cell? _ _ hc)]; exact hc
       clear h hb hs ht hc)
    | fail)
  go_wp2_with fail
  exact bodyPost_end (results_none rfl _ _ _) rfl ⟨.inl ⟨rfl, by rw [HOK.out, HV.out]; exact H0.out⟩, HB1.out⟩
set_option maxHeartbeats 3200000 in
theorem numck_cn (low : Int) (W : World) (b s t : Nat) (N : NoN) (hN : NB W b N) (hs : W.cell? ⟨s, 0, none⟩ = some (.func (.func 118) #[] #[])) (ht : W.cell? ⟨t, 0, none⟩ = some (.int .i64 low)) :
    Calls Tryz.prog 171 #[.pointer (some ⟨b, 0, none⟩), .pointer (some ⟨s, 0, none⟩), .pointer (some ⟨t, 0, none⟩)] W (CK (low ≤ N.cn ∧ N.cn ≤ 2147483647) W) := by
  obtain ⟨ok, hok⟩ : ∃ ok : Prop, (low ≤ N.cn ∧ N.cn ≤ 2147483647) = ok := ⟨_, rfl⟩
  have HOK : Hid (ok = (low ≤ N.cn ∧ N.cn ≤ 2147483647)) := hok.symm
  rw [hok]
  clear hok
  have hc := hN.cell (i := 5) (v := .int .i64 N.cn) rfl
  obtain ⟨v, hv⟩ : ∃ v, N.cn = v := ⟨_, rfl⟩
  have HV : Hid (N.cn = v) := hv
  rw [hv] at hc
  clear hN hv
  go_enter Tryz.func171, Tryz.ntmps171
  go_wp2_with fail
  go_region_held2 (fun V => V.cell? ⟨s, 0, none⟩ = some (.func (.func 118) #[] #[]) ∧ V.cell? ⟨t, 0, none⟩ = some (.int .i64 low) ∧ V.cell? ⟨b, 5, none⟩ = some (.int .i64 v))
    (first
    | exact ⟨hs, ht, hc⟩
    | go_keep)
    (first
    | (go_at_call 118; refine Calls.mono (at_cn.says _ b) ?_; rintro e w2 ⟨rfl, hw2⟩; rw [hw2]; clear hw2)
    | (go_at_call 67; refine Calls.mono (number_ck _ _ _) ?_; rintro e w1 ⟨⟨rfl, h⟩ | ⟨rfl, h⟩, hb⟩
       rotate_left
       · exact ⟨rfl, .inr ⟨rfl, by rw [HOK.out, HV.out]; exact fun g => h g⟩, below_of (below_drew (Below.refl _ _)) hb⟩
       have H0 : Hid (low ≤ v ∧ v ≤ 2147483647) := h
       have HB1 : Hid (Below W.heap.size W w1) := below_of (below_drew (Below.refl _ _)) hb
       have hs1 : w1.cell? ⟨s, 0, none⟩ = some (.func (.func 118) #[] #[]) := by rw [HB1.out.cell (p := ⟨s, 0, none⟩) (World.block_lt_of_cell? _ _ hs)]; exact hs
       have ht1 : w1.cell? ⟨t, 0, none⟩ = some (.int .i64 low) := by rw [HB1.out.cell (p := ⟨t, 0, none⟩) (World.block_lt_of_cell? _ _ ht)]; exact ht
       have hc1 : w1.cell? ⟨b, 5, none⟩ = some (.int .i64 v) := by rw [HB1.out.cell (p := ⟨b, 5, none⟩) (World.block_lt_of_cell? _ _ hc)]; exact hc
       clear h hb hs ht hc)
    | fail)
  go_wp2_with fail
  exact bodyPost_end (results_none rfl _ _ _) rfl ⟨.inl ⟨rfl, by rw [HOK.out, HV.out]; exact H0.out⟩, HB1.out⟩
set_option maxHeartbeats 3200000 in
theorem numck_rq (low : Int) (W : World) (b s t : Nat) (N : NoN) (hN : NB W b N) (hs : W.cell? ⟨s, 0, none⟩ = some (.func (.func 119) #[] #[])) (ht : W.cell? ⟨t, 0, none⟩ = some (.int .i64 low)) :
    Calls Tryz.prog 171 #[.pointer (some ⟨b, 0, none⟩), .pointer (some ⟨s, 0, none⟩), .pointer (some ⟨t, 0, none⟩)] W (CK (low ≤ N.rq ∧ N.rq ≤ 2147483647) W) := by
  obtain ⟨ok, hok⟩ : ∃ ok : Prop, (low ≤ N.rq ∧ N.rq ≤ 2147483647) = ok := ⟨_, rfl⟩
  have HOK : Hid (ok = (low ≤ N.rq ∧ N.rq ≤ 2147483647)) := hok.symm
  rw [hok]
  clear hok
  have hc := hN.cell (i := 6) (v := .int .i64 N.rq) rfl
  obtain ⟨v, hv⟩ : ∃ v, N.rq = v := ⟨_, rfl⟩
  have HV : Hid (N.rq = v) := hv
  rw [hv] at hc
  clear hN hv
  go_enter Tryz.func171, Tryz.ntmps171
  go_wp2_with fail
  go_region_held2 (fun V => V.cell? ⟨s, 0, none⟩ = some (.func (.func 119) #[] #[]) ∧ V.cell? ⟨t, 0, none⟩ = some (.int .i64 low) ∧ V.cell? ⟨b, 6, none⟩ = some (.int .i64 v))
    (first
    | exact ⟨hs, ht, hc⟩
    | go_keep)
    (first
    | (go_at_call 119; refine Calls.mono (at_rq.says _ b) ?_; rintro e w2 ⟨rfl, hw2⟩; rw [hw2]; clear hw2)
    | (go_at_call 67; refine Calls.mono (number_ck _ _ _) ?_; rintro e w1 ⟨⟨rfl, h⟩ | ⟨rfl, h⟩, hb⟩
       rotate_left
       · exact ⟨rfl, .inr ⟨rfl, by rw [HOK.out, HV.out]; exact fun g => h g⟩, below_of (below_drew (Below.refl _ _)) hb⟩
       have H0 : Hid (low ≤ v ∧ v ≤ 2147483647) := h
       have HB1 : Hid (Below W.heap.size W w1) := below_of (below_drew (Below.refl _ _)) hb
       have hs1 : w1.cell? ⟨s, 0, none⟩ = some (.func (.func 119) #[] #[]) := by rw [HB1.out.cell (p := ⟨s, 0, none⟩) (World.block_lt_of_cell? _ _ hs)]; exact hs
       have ht1 : w1.cell? ⟨t, 0, none⟩ = some (.int .i64 low) := by rw [HB1.out.cell (p := ⟨t, 0, none⟩) (World.block_lt_of_cell? _ _ ht)]; exact ht
       have hc1 : w1.cell? ⟨b, 6, none⟩ = some (.int .i64 v) := by rw [HB1.out.cell (p := ⟨b, 6, none⟩) (World.block_lt_of_cell? _ _ hc)]; exact hc
       clear h hb hs ht hc)
    | fail)
  go_wp2_with fail
  exact bodyPost_end (results_none rfl _ _ _) rfl ⟨.inl ⟨rfl, by rw [HOK.out, HV.out]; exact H0.out⟩, HB1.out⟩
set_option maxHeartbeats 3200000 in
theorem numck_st (low : Int) (W : World) (b s t : Nat) (N : NoN) (hN : NB W b N) (hs : W.cell? ⟨s, 0, none⟩ = some (.func (.func 120) #[] #[])) (ht : W.cell? ⟨t, 0, none⟩ = some (.int .i64 low)) :
    Calls Tryz.prog 171 #[.pointer (some ⟨b, 0, none⟩), .pointer (some ⟨s, 0, none⟩), .pointer (some ⟨t, 0, none⟩)] W (CK (low ≤ N.st ∧ N.st ≤ 2147483647) W) := by
  obtain ⟨ok, hok⟩ : ∃ ok : Prop, (low ≤ N.st ∧ N.st ≤ 2147483647) = ok := ⟨_, rfl⟩
  have HOK : Hid (ok = (low ≤ N.st ∧ N.st ≤ 2147483647)) := hok.symm
  rw [hok]
  clear hok
  have hc := hN.cell (i := 7) (v := .int .i64 N.st) rfl
  obtain ⟨v, hv⟩ : ∃ v, N.st = v := ⟨_, rfl⟩
  have HV : Hid (N.st = v) := hv
  rw [hv] at hc
  clear hN hv
  go_enter Tryz.func171, Tryz.ntmps171
  go_wp2_with fail
  go_region_held2 (fun V => V.cell? ⟨s, 0, none⟩ = some (.func (.func 120) #[] #[]) ∧ V.cell? ⟨t, 0, none⟩ = some (.int .i64 low) ∧ V.cell? ⟨b, 7, none⟩ = some (.int .i64 v))
    (first
    | exact ⟨hs, ht, hc⟩
    | go_keep)
    (first
    | (go_at_call 120; refine Calls.mono (at_st.says _ b) ?_; rintro e w2 ⟨rfl, hw2⟩; rw [hw2]; clear hw2)
    | (go_at_call 67; refine Calls.mono (number_ck _ _ _) ?_; rintro e w1 ⟨⟨rfl, h⟩ | ⟨rfl, h⟩, hb⟩
       rotate_left
       · exact ⟨rfl, .inr ⟨rfl, by rw [HOK.out, HV.out]; exact fun g => h g⟩, below_of (below_drew (Below.refl _ _)) hb⟩
       have H0 : Hid (low ≤ v ∧ v ≤ 2147483647) := h
       have HB1 : Hid (Below W.heap.size W w1) := below_of (below_drew (Below.refl _ _)) hb
       have hs1 : w1.cell? ⟨s, 0, none⟩ = some (.func (.func 120) #[] #[]) := by rw [HB1.out.cell (p := ⟨s, 0, none⟩) (World.block_lt_of_cell? _ _ hs)]; exact hs
       have ht1 : w1.cell? ⟨t, 0, none⟩ = some (.int .i64 low) := by rw [HB1.out.cell (p := ⟨t, 0, none⟩) (World.block_lt_of_cell? _ _ ht)]; exact ht
       have hc1 : w1.cell? ⟨b, 7, none⟩ = some (.int .i64 v) := by rw [HB1.out.cell (p := ⟨b, 7, none⟩) (World.block_lt_of_cell? _ _ hc)]; exact hc
       clear h hb hs ht hc)
    | fail)
  go_wp2_with fail
  exact bodyPost_end (results_none rfl _ _ _) rfl ⟨.inl ⟨rfl, by rw [HOK.out, HV.out]; exact H0.out⟩, HB1.out⟩
set_option maxHeartbeats 3200000 in
theorem numck_of (low : Int) (W : World) (b s t : Nat) (N : NoN) (hN : NB W b N) (hs : W.cell? ⟨s, 0, none⟩ = some (.func (.func 121) #[] #[])) (ht : W.cell? ⟨t, 0, none⟩ = some (.int .i64 low)) :
    Calls Tryz.prog 171 #[.pointer (some ⟨b, 0, none⟩), .pointer (some ⟨s, 0, none⟩), .pointer (some ⟨t, 0, none⟩)] W (CK (low ≤ N.of ∧ N.of ≤ 2147483647) W) := by
  obtain ⟨ok, hok⟩ : ∃ ok : Prop, (low ≤ N.of ∧ N.of ≤ 2147483647) = ok := ⟨_, rfl⟩
  have HOK : Hid (ok = (low ≤ N.of ∧ N.of ≤ 2147483647)) := hok.symm
  rw [hok]
  clear hok
  have hc := hN.cell (i := 8) (v := .int .i64 N.of) rfl
  obtain ⟨v, hv⟩ : ∃ v, N.of = v := ⟨_, rfl⟩
  have HV : Hid (N.of = v) := hv
  rw [hv] at hc
  clear hN hv
  go_enter Tryz.func171, Tryz.ntmps171
  go_wp2_with fail
  go_region_held2 (fun V => V.cell? ⟨s, 0, none⟩ = some (.func (.func 121) #[] #[]) ∧ V.cell? ⟨t, 0, none⟩ = some (.int .i64 low) ∧ V.cell? ⟨b, 8, none⟩ = some (.int .i64 v))
    (first
    | exact ⟨hs, ht, hc⟩
    | go_keep)
    (first
    | (go_at_call 121; refine Calls.mono (at_of.says _ b) ?_; rintro e w2 ⟨rfl, hw2⟩; rw [hw2]; clear hw2)
    | (go_at_call 67; refine Calls.mono (number_ck _ _ _) ?_; rintro e w1 ⟨⟨rfl, h⟩ | ⟨rfl, h⟩, hb⟩
       rotate_left
       · exact ⟨rfl, .inr ⟨rfl, by rw [HOK.out, HV.out]; exact fun g => h g⟩, below_of (below_drew (Below.refl _ _)) hb⟩
       have H0 : Hid (low ≤ v ∧ v ≤ 2147483647) := h
       have HB1 : Hid (Below W.heap.size W w1) := below_of (below_drew (Below.refl _ _)) hb
       have hs1 : w1.cell? ⟨s, 0, none⟩ = some (.func (.func 121) #[] #[]) := by rw [HB1.out.cell (p := ⟨s, 0, none⟩) (World.block_lt_of_cell? _ _ hs)]; exact hs
       have ht1 : w1.cell? ⟨t, 0, none⟩ = some (.int .i64 low) := by rw [HB1.out.cell (p := ⟨t, 0, none⟩) (World.block_lt_of_cell? _ _ ht)]; exact ht
       have hc1 : w1.cell? ⟨b, 8, none⟩ = some (.int .i64 v) := by rw [HB1.out.cell (p := ⟨b, 8, none⟩) (World.block_lt_of_cell? _ _ hc)]; exact hc
       clear h hb hs ht hc)
    | fail)
  go_wp2_with fail
  exact bodyPost_end (results_none rfl _ _ _) rfl ⟨.inl ⟨rfl, by rw [HOK.out, HV.out]; exact H0.out⟩, HB1.out⟩
set_option maxHeartbeats 3200000 in
theorem numck_cm (low : Int) (W : World) (b s t : Nat) (N : NoN) (hN : NB W b N) (hs : W.cell? ⟨s, 0, none⟩ = some (.func (.func 122) #[] #[])) (ht : W.cell? ⟨t, 0, none⟩ = some (.int .i64 low)) :
    Calls Tryz.prog 171 #[.pointer (some ⟨b, 0, none⟩), .pointer (some ⟨s, 0, none⟩), .pointer (some ⟨t, 0, none⟩)] W (CK (low ≤ N.cm ∧ N.cm ≤ 2147483647) W) := by
  obtain ⟨ok, hok⟩ : ∃ ok : Prop, (low ≤ N.cm ∧ N.cm ≤ 2147483647) = ok := ⟨_, rfl⟩
  have HOK : Hid (ok = (low ≤ N.cm ∧ N.cm ≤ 2147483647)) := hok.symm
  rw [hok]
  clear hok
  have hc := hN.cell (i := 9) (v := .int .i64 N.cm) rfl
  obtain ⟨v, hv⟩ : ∃ v, N.cm = v := ⟨_, rfl⟩
  have HV : Hid (N.cm = v) := hv
  rw [hv] at hc
  clear hN hv
  go_enter Tryz.func171, Tryz.ntmps171
  go_wp2_with fail
  go_region_held2 (fun V => V.cell? ⟨s, 0, none⟩ = some (.func (.func 122) #[] #[]) ∧ V.cell? ⟨t, 0, none⟩ = some (.int .i64 low) ∧ V.cell? ⟨b, 9, none⟩ = some (.int .i64 v))
    (first
    | exact ⟨hs, ht, hc⟩
    | go_keep)
    (first
    | (go_at_call 122; refine Calls.mono (at_cm.says _ b) ?_; rintro e w2 ⟨rfl, hw2⟩; rw [hw2]; clear hw2)
    | (go_at_call 67; refine Calls.mono (number_ck _ _ _) ?_; rintro e w1 ⟨⟨rfl, h⟩ | ⟨rfl, h⟩, hb⟩
       rotate_left
       · exact ⟨rfl, .inr ⟨rfl, by rw [HOK.out, HV.out]; exact fun g => h g⟩, below_of (below_drew (Below.refl _ _)) hb⟩
       have H0 : Hid (low ≤ v ∧ v ≤ 2147483647) := h
       have HB1 : Hid (Below W.heap.size W w1) := below_of (below_drew (Below.refl _ _)) hb
       have hs1 : w1.cell? ⟨s, 0, none⟩ = some (.func (.func 122) #[] #[]) := by rw [HB1.out.cell (p := ⟨s, 0, none⟩) (World.block_lt_of_cell? _ _ hs)]; exact hs
       have ht1 : w1.cell? ⟨t, 0, none⟩ = some (.int .i64 low) := by rw [HB1.out.cell (p := ⟨t, 0, none⟩) (World.block_lt_of_cell? _ _ ht)]; exact ht
       have hc1 : w1.cell? ⟨b, 9, none⟩ = some (.int .i64 v) := by rw [HB1.out.cell (p := ⟨b, 9, none⟩) (World.block_lt_of_cell? _ _ hc)]; exact hc
       clear h hb hs ht hc)
    | fail)
  go_wp2_with fail
  exact bodyPost_end (results_none rfl _ _ _) rfl ⟨.inl ⟨rfl, by rw [HOK.out, HV.out]; exact H0.out⟩, HB1.out⟩
set_option maxHeartbeats 3200000 in
theorem numck_cd (low : Int) (W : World) (b s t : Nat) (N : NoN) (hN : NB W b N) (hs : W.cell? ⟨s, 0, none⟩ = some (.func (.func 124) #[] #[])) (ht : W.cell? ⟨t, 0, none⟩ = some (.int .i64 low)) :
    Calls Tryz.prog 175 #[.pointer (some ⟨b, 0, none⟩), .pointer (some ⟨s, 0, none⟩), .pointer (some ⟨t, 0, none⟩)] W (CK (low ≤ N.cd ∧ N.cd ≤ 2147483647) W) := by
  obtain ⟨ok, hok⟩ : ∃ ok : Prop, (low ≤ N.cd ∧ N.cd ≤ 2147483647) = ok := ⟨_, rfl⟩
  have HOK : Hid (ok = (low ≤ N.cd ∧ N.cd ≤ 2147483647)) := hok.symm
  rw [hok]
  clear hok
  have hc := hN.cell (i := 10) (v := .int .i64 N.cd) rfl
  obtain ⟨v, hv⟩ : ∃ v, N.cd = v := ⟨_, rfl⟩
  have HV : Hid (N.cd = v) := hv
  rw [hv] at hc
  clear hN hv
  go_enter Tryz.func175, Tryz.ntmps175
  go_wp2_with fail
  go_region_held2 (fun V => V.cell? ⟨s, 0, none⟩ = some (.func (.func 124) #[] #[]) ∧ V.cell? ⟨t, 0, none⟩ = some (.int .i64 low) ∧ V.cell? ⟨b, 10, none⟩ = some (.int .i64 v))
    (first
    | exact ⟨hs, ht, hc⟩
    | go_keep)
    (first
    | (go_at_call 124; refine Calls.mono (at_cd.says _ b) ?_; rintro e w2 ⟨rfl, hw2⟩; rw [hw2]; clear hw2)
    | (go_at_call 67; refine Calls.mono (number_ck _ _ _) ?_; rintro e w1 ⟨⟨rfl, h⟩ | ⟨rfl, h⟩, hb⟩
       rotate_left
       · exact ⟨rfl, .inr ⟨rfl, by rw [HOK.out, HV.out]; exact fun g => h g⟩, below_of (below_drew (Below.refl _ _)) hb⟩
       have H0 : Hid (low ≤ v ∧ v ≤ 2147483647) := h
       have HB1 : Hid (Below W.heap.size W w1) := below_of (below_drew (Below.refl _ _)) hb
       have hs1 : w1.cell? ⟨s, 0, none⟩ = some (.func (.func 124) #[] #[]) := by rw [HB1.out.cell (p := ⟨s, 0, none⟩) (World.block_lt_of_cell? _ _ hs)]; exact hs
       have ht1 : w1.cell? ⟨t, 0, none⟩ = some (.int .i64 low) := by rw [HB1.out.cell (p := ⟨t, 0, none⟩) (World.block_lt_of_cell? _ _ ht)]; exact ht
       have hc1 : w1.cell? ⟨b, 10, none⟩ = some (.int .i64 v) := by rw [HB1.out.cell (p := ⟨b, 10, none⟩) (World.block_lt_of_cell? _ _ hc)]; exact hc
       clear h hb hs ht hc)
    | fail)
  go_wp2_with fail
  exact bodyPost_end (results_none rfl _ _ _) rfl ⟨.inl ⟨rfl, by rw [HOK.out, HV.out]; exact H0.out⟩, HB1.out⟩
end Go.Proofs.YtdjfeomdiljaeaaGreatDoor
