/-
  note: what a row's write and read do.
-/
import Derived.Test.YtdjfeomdiljaeaaGreatDoorNtEn
import Derived.Test.YtdjfeomdiljaeaaGreatDoorNtNum
import Derived.Test.YtdjfeomdiljaeaaGreatDoorNtRp
namespace Go.Proofs.YtdjfeomdiljaeaaGreatDoor
open Go.RowKit
set_option linter.unusedVariables false
set_option linter.unusedSimpArgs false

theorem cell_low {W w1 : World} {bw b i : Nat} {v : Value} (hb : Below bw W w1) (hlt : b < bw) (h : W.cell? ⟨b, i, none⟩ = some v) : w1.cell? ⟨b, i, none⟩ = some v := by rw [hb.cell (p := ⟨b, i, none⟩) hlt]; exact h
set_option maxHeartbeats 1600000 in
theorem wn_int (bw : Nat) (v : Value) (xs : List Int) (n : Int) (w : World) (h : WrAt 67 w bw v xs) (hv : inN n) (hl : xs.length + (nmL n).length ≤ 1000000) :
    Calls Tryz.prog 172 #[.pointer (some ⟨bw, 0, none⟩), .int .i64 n] w (WrEnd 67 bw v xs (nmL n) w) := by
  have HN : Hid _ := wr_num bw v xs n w h hv hl
  clear h hv hl
  go_enter Tryz.func172, Tryz.ntmps172
  go_wp2_with (first
    | (go_at_call 58; refine Calls.mono HN.out ?_; rintro e w1 ⟨v1, rfl, ha, hb, hf⟩)
    | fail)
  exact bodyPost_end (results_none rfl _ _ _) rfl ⟨v1, rfl, ha, hb, hf⟩
set_option maxHeartbeats 3200000 in
theorem wrt_num (W : World) (b s t bw : Nat) (v : Value) (xs : List Int) (N : NoN) (hN : NB W b N) (hs : W.cell? ⟨s, 0, none⟩ = some (.func (.func 116) #[] #[])) (ht : W.cell? ⟨t, 0, none⟩ = some (.func (.func 172) #[] #[]))
    (h : WrAt 67 W bw v xs) (hb : b < bw) (hsb : s < bw) (htb : t < bw) (hv : inN N.num) (hl : xs.length + (nmL N.num).length ≤ 1000000) :
    Calls Tryz.prog 241 #[.pointer (some ⟨bw, 0, none⟩), .pointer (some ⟨b, 0, none⟩), .pointer (some ⟨t, 0, none⟩), .pointer (some ⟨s, 0, none⟩)] W (WrEnd 67 bw v xs (nmL N.num) W) := by
  have hc := hN.cell (i := 1) (v := .int .i64 N.num) rfl
  obtain ⟨n, hn⟩ : ∃ n, N.num = n := ⟨_, rfl⟩
  rw [hn] at hc hv hl ⊢
  have HW : Hid (∀ W', Below W.heap.size W W' → Calls Tryz.prog 172 #[.pointer (some ⟨bw, 0, none⟩), .int .i64 n] W' (WrEnd 67 bw v xs (nmL n) W')) := fun W' hb' => wn_int bw v xs n W' (h.below hb') hv hl
  have HA : Hid (WrAt 67 W bw v xs) := h
  clear hN hn hv hl h
  go_enter Tryz.func241, Tryz.ntmps241
  go_region_held2 (fun V => V.cell? ⟨s, 0, none⟩ = some (.func (.func 116) #[] #[]) ∧ V.cell? ⟨t, 0, none⟩ = some (.func (.func 172) #[] #[]) ∧ V.cell? ⟨b, 1, none⟩ = some (.int .i64 n))
    (first
    | exact ⟨hs, ht, hc⟩
    | go_keep)
    (first
    | (go_at_call 116; refine Calls.mono (at_num.says _ b) ?_; rintro e w2 ⟨rfl, hw2⟩; rw [hw2]; clear hw2)
    | (go_at_call 172; refine Calls.mono (HW.out _ (by first | exact Below.refl _ _ | exact below_drew (Below.refl _ _))) ?_; intro e w1 hE
       obtain ⟨v1, rfl, hq⟩ := (WrQ.start HA.out).ext (w1 := W.drew) (below_drew (Below.refl _ _)) |>.step (by rw [List.append_nil]; exact hE)
       have HQ : Hid (WrQ 67 W bw v xs w1 v1 (nmL n)) := hq
       have hs1 : w1.cell? ⟨s, 0, none⟩ = some (.func (.func 116) #[] #[]) := cell_low HQ.out.low hsb hs
       have ht1 : w1.cell? ⟨t, 0, none⟩ = some (.func (.func 172) #[] #[]) := cell_low HQ.out.low htb ht
       have hc1 : w1.cell? ⟨b, 1, none⟩ = some (.int .i64 n) := cell_low HQ.out.low hb hc
       clear hE hq hs ht hc)
    | fail)
  exact bodyPost_end (results_none rfl _ _ _) rfl (HQ.out.done rfl)
set_option maxHeartbeats 3200000 in
theorem wrt_se (W : World) (b s t bw : Nat) (v : Value) (xs : List Int) (N : NoN) (hN : NB W b N) (hs : W.cell? ⟨s, 0, none⟩ = some (.func (.func 117) #[] #[])) (ht : W.cell? ⟨t, 0, none⟩ = some (.func (.func 172) #[] #[]))
    (h : WrAt 67 W bw v xs) (hb : b < bw) (hsb : s < bw) (htb : t < bw) (hv : inN N.se) (hl : xs.length + (nmL N.se).length ≤ 1000000) :
    Calls Tryz.prog 241 #[.pointer (some ⟨bw, 0, none⟩), .pointer (some ⟨b, 0, none⟩), .pointer (some ⟨t, 0, none⟩), .pointer (some ⟨s, 0, none⟩)] W (WrEnd 67 bw v xs (nmL N.se) W) := by
  have hc := hN.cell (i := 4) (v := .int .i64 N.se) rfl
  obtain ⟨n, hn⟩ : ∃ n, N.se = n := ⟨_, rfl⟩
  rw [hn] at hc hv hl ⊢
  have HW : Hid (∀ W', Below W.heap.size W W' → Calls Tryz.prog 172 #[.pointer (some ⟨bw, 0, none⟩), .int .i64 n] W' (WrEnd 67 bw v xs (nmL n) W')) := fun W' hb' => wn_int bw v xs n W' (h.below hb') hv hl
  have HA : Hid (WrAt 67 W bw v xs) := h
  clear hN hn hv hl h
  go_enter Tryz.func241, Tryz.ntmps241
  go_region_held2 (fun V => V.cell? ⟨s, 0, none⟩ = some (.func (.func 117) #[] #[]) ∧ V.cell? ⟨t, 0, none⟩ = some (.func (.func 172) #[] #[]) ∧ V.cell? ⟨b, 4, none⟩ = some (.int .i64 n))
    (first
    | exact ⟨hs, ht, hc⟩
    | go_keep)
    (first
    | (go_at_call 117; refine Calls.mono (at_se.says _ b) ?_; rintro e w2 ⟨rfl, hw2⟩; rw [hw2]; clear hw2)
    | (go_at_call 172; refine Calls.mono (HW.out _ (by first | exact Below.refl _ _ | exact below_drew (Below.refl _ _))) ?_; intro e w1 hE
       obtain ⟨v1, rfl, hq⟩ := (WrQ.start HA.out).ext (w1 := W.drew) (below_drew (Below.refl _ _)) |>.step (by rw [List.append_nil]; exact hE)
       have HQ : Hid (WrQ 67 W bw v xs w1 v1 (nmL n)) := hq
       have hs1 : w1.cell? ⟨s, 0, none⟩ = some (.func (.func 117) #[] #[]) := cell_low HQ.out.low hsb hs
       have ht1 : w1.cell? ⟨t, 0, none⟩ = some (.func (.func 172) #[] #[]) := cell_low HQ.out.low htb ht
       have hc1 : w1.cell? ⟨b, 4, none⟩ = some (.int .i64 n) := cell_low HQ.out.low hb hc
       clear hE hq hs ht hc)
    | fail)
  exact bodyPost_end (results_none rfl _ _ _) rfl (HQ.out.done rfl)
set_option maxHeartbeats 3200000 in
theorem wrt_cn (W : World) (b s t bw : Nat) (v : Value) (xs : List Int) (N : NoN) (hN : NB W b N) (hs : W.cell? ⟨s, 0, none⟩ = some (.func (.func 118) #[] #[])) (ht : W.cell? ⟨t, 0, none⟩ = some (.func (.func 172) #[] #[]))
    (h : WrAt 67 W bw v xs) (hb : b < bw) (hsb : s < bw) (htb : t < bw) (hv : inN N.cn) (hl : xs.length + (nmL N.cn).length ≤ 1000000) :
    Calls Tryz.prog 241 #[.pointer (some ⟨bw, 0, none⟩), .pointer (some ⟨b, 0, none⟩), .pointer (some ⟨t, 0, none⟩), .pointer (some ⟨s, 0, none⟩)] W (WrEnd 67 bw v xs (nmL N.cn) W) := by
  have hc := hN.cell (i := 5) (v := .int .i64 N.cn) rfl
  obtain ⟨n, hn⟩ : ∃ n, N.cn = n := ⟨_, rfl⟩
  rw [hn] at hc hv hl ⊢
  have HW : Hid (∀ W', Below W.heap.size W W' → Calls Tryz.prog 172 #[.pointer (some ⟨bw, 0, none⟩), .int .i64 n] W' (WrEnd 67 bw v xs (nmL n) W')) := fun W' hb' => wn_int bw v xs n W' (h.below hb') hv hl
  have HA : Hid (WrAt 67 W bw v xs) := h
  clear hN hn hv hl h
  go_enter Tryz.func241, Tryz.ntmps241
  go_region_held2 (fun V => V.cell? ⟨s, 0, none⟩ = some (.func (.func 118) #[] #[]) ∧ V.cell? ⟨t, 0, none⟩ = some (.func (.func 172) #[] #[]) ∧ V.cell? ⟨b, 5, none⟩ = some (.int .i64 n))
    (first
    | exact ⟨hs, ht, hc⟩
    | go_keep)
    (first
    | (go_at_call 118; refine Calls.mono (at_cn.says _ b) ?_; rintro e w2 ⟨rfl, hw2⟩; rw [hw2]; clear hw2)
    | (go_at_call 172; refine Calls.mono (HW.out _ (by first | exact Below.refl _ _ | exact below_drew (Below.refl _ _))) ?_; intro e w1 hE
       obtain ⟨v1, rfl, hq⟩ := (WrQ.start HA.out).ext (w1 := W.drew) (below_drew (Below.refl _ _)) |>.step (by rw [List.append_nil]; exact hE)
       have HQ : Hid (WrQ 67 W bw v xs w1 v1 (nmL n)) := hq
       have hs1 : w1.cell? ⟨s, 0, none⟩ = some (.func (.func 118) #[] #[]) := cell_low HQ.out.low hsb hs
       have ht1 : w1.cell? ⟨t, 0, none⟩ = some (.func (.func 172) #[] #[]) := cell_low HQ.out.low htb ht
       have hc1 : w1.cell? ⟨b, 5, none⟩ = some (.int .i64 n) := cell_low HQ.out.low hb hc
       clear hE hq hs ht hc)
    | fail)
  exact bodyPost_end (results_none rfl _ _ _) rfl (HQ.out.done rfl)
set_option maxHeartbeats 3200000 in
theorem wrt_rq (W : World) (b s t bw : Nat) (v : Value) (xs : List Int) (N : NoN) (hN : NB W b N) (hs : W.cell? ⟨s, 0, none⟩ = some (.func (.func 119) #[] #[])) (ht : W.cell? ⟨t, 0, none⟩ = some (.func (.func 172) #[] #[]))
    (h : WrAt 67 W bw v xs) (hb : b < bw) (hsb : s < bw) (htb : t < bw) (hv : inN N.rq) (hl : xs.length + (nmL N.rq).length ≤ 1000000) :
    Calls Tryz.prog 241 #[.pointer (some ⟨bw, 0, none⟩), .pointer (some ⟨b, 0, none⟩), .pointer (some ⟨t, 0, none⟩), .pointer (some ⟨s, 0, none⟩)] W (WrEnd 67 bw v xs (nmL N.rq) W) := by
  have hc := hN.cell (i := 6) (v := .int .i64 N.rq) rfl
  obtain ⟨n, hn⟩ : ∃ n, N.rq = n := ⟨_, rfl⟩
  rw [hn] at hc hv hl ⊢
  have HW : Hid (∀ W', Below W.heap.size W W' → Calls Tryz.prog 172 #[.pointer (some ⟨bw, 0, none⟩), .int .i64 n] W' (WrEnd 67 bw v xs (nmL n) W')) := fun W' hb' => wn_int bw v xs n W' (h.below hb') hv hl
  have HA : Hid (WrAt 67 W bw v xs) := h
  clear hN hn hv hl h
  go_enter Tryz.func241, Tryz.ntmps241
  go_region_held2 (fun V => V.cell? ⟨s, 0, none⟩ = some (.func (.func 119) #[] #[]) ∧ V.cell? ⟨t, 0, none⟩ = some (.func (.func 172) #[] #[]) ∧ V.cell? ⟨b, 6, none⟩ = some (.int .i64 n))
    (first
    | exact ⟨hs, ht, hc⟩
    | go_keep)
    (first
    | (go_at_call 119; refine Calls.mono (at_rq.says _ b) ?_; rintro e w2 ⟨rfl, hw2⟩; rw [hw2]; clear hw2)
    | (go_at_call 172; refine Calls.mono (HW.out _ (by first | exact Below.refl _ _ | exact below_drew (Below.refl _ _))) ?_; intro e w1 hE
       obtain ⟨v1, rfl, hq⟩ := (WrQ.start HA.out).ext (w1 := W.drew) (below_drew (Below.refl _ _)) |>.step (by rw [List.append_nil]; exact hE)
       have HQ : Hid (WrQ 67 W bw v xs w1 v1 (nmL n)) := hq
       have hs1 : w1.cell? ⟨s, 0, none⟩ = some (.func (.func 119) #[] #[]) := cell_low HQ.out.low hsb hs
       have ht1 : w1.cell? ⟨t, 0, none⟩ = some (.func (.func 172) #[] #[]) := cell_low HQ.out.low htb ht
       have hc1 : w1.cell? ⟨b, 6, none⟩ = some (.int .i64 n) := cell_low HQ.out.low hb hc
       clear hE hq hs ht hc)
    | fail)
  exact bodyPost_end (results_none rfl _ _ _) rfl (HQ.out.done rfl)
set_option maxHeartbeats 3200000 in
theorem wrt_st (W : World) (b s t bw : Nat) (v : Value) (xs : List Int) (N : NoN) (hN : NB W b N) (hs : W.cell? ⟨s, 0, none⟩ = some (.func (.func 120) #[] #[])) (ht : W.cell? ⟨t, 0, none⟩ = some (.func (.func 172) #[] #[]))
    (h : WrAt 67 W bw v xs) (hb : b < bw) (hsb : s < bw) (htb : t < bw) (hv : inN N.st) (hl : xs.length + (nmL N.st).length ≤ 1000000) :
    Calls Tryz.prog 241 #[.pointer (some ⟨bw, 0, none⟩), .pointer (some ⟨b, 0, none⟩), .pointer (some ⟨t, 0, none⟩), .pointer (some ⟨s, 0, none⟩)] W (WrEnd 67 bw v xs (nmL N.st) W) := by
  have hc := hN.cell (i := 7) (v := .int .i64 N.st) rfl
  obtain ⟨n, hn⟩ : ∃ n, N.st = n := ⟨_, rfl⟩
  rw [hn] at hc hv hl ⊢
  have HW : Hid (∀ W', Below W.heap.size W W' → Calls Tryz.prog 172 #[.pointer (some ⟨bw, 0, none⟩), .int .i64 n] W' (WrEnd 67 bw v xs (nmL n) W')) := fun W' hb' => wn_int bw v xs n W' (h.below hb') hv hl
  have HA : Hid (WrAt 67 W bw v xs) := h
  clear hN hn hv hl h
  go_enter Tryz.func241, Tryz.ntmps241
  go_region_held2 (fun V => V.cell? ⟨s, 0, none⟩ = some (.func (.func 120) #[] #[]) ∧ V.cell? ⟨t, 0, none⟩ = some (.func (.func 172) #[] #[]) ∧ V.cell? ⟨b, 7, none⟩ = some (.int .i64 n))
    (first
    | exact ⟨hs, ht, hc⟩
    | go_keep)
    (first
    | (go_at_call 120; refine Calls.mono (at_st.says _ b) ?_; rintro e w2 ⟨rfl, hw2⟩; rw [hw2]; clear hw2)
    | (go_at_call 172; refine Calls.mono (HW.out _ (by first | exact Below.refl _ _ | exact below_drew (Below.refl _ _))) ?_; intro e w1 hE
       obtain ⟨v1, rfl, hq⟩ := (WrQ.start HA.out).ext (w1 := W.drew) (below_drew (Below.refl _ _)) |>.step (by rw [List.append_nil]; exact hE)
       have HQ : Hid (WrQ 67 W bw v xs w1 v1 (nmL n)) := hq
       have hs1 : w1.cell? ⟨s, 0, none⟩ = some (.func (.func 120) #[] #[]) := cell_low HQ.out.low hsb hs
       have ht1 : w1.cell? ⟨t, 0, none⟩ = some (.func (.func 172) #[] #[]) := cell_low HQ.out.low htb ht
       have hc1 : w1.cell? ⟨b, 7, none⟩ = some (.int .i64 n) := cell_low HQ.out.low hb hc
       clear hE hq hs ht hc)
    | fail)
  exact bodyPost_end (results_none rfl _ _ _) rfl (HQ.out.done rfl)
set_option maxHeartbeats 3200000 in
theorem wrt_of (W : World) (b s t bw : Nat) (v : Value) (xs : List Int) (N : NoN) (hN : NB W b N) (hs : W.cell? ⟨s, 0, none⟩ = some (.func (.func 121) #[] #[])) (ht : W.cell? ⟨t, 0, none⟩ = some (.func (.func 172) #[] #[]))
    (h : WrAt 67 W bw v xs) (hb : b < bw) (hsb : s < bw) (htb : t < bw) (hv : inN N.of) (hl : xs.length + (nmL N.of).length ≤ 1000000) :
    Calls Tryz.prog 241 #[.pointer (some ⟨bw, 0, none⟩), .pointer (some ⟨b, 0, none⟩), .pointer (some ⟨t, 0, none⟩), .pointer (some ⟨s, 0, none⟩)] W (WrEnd 67 bw v xs (nmL N.of) W) := by
  have hc := hN.cell (i := 8) (v := .int .i64 N.of) rfl
  obtain ⟨n, hn⟩ : ∃ n, N.of = n := ⟨_, rfl⟩
  rw [hn] at hc hv hl ⊢
  have HW : Hid (∀ W', Below W.heap.size W W' → Calls Tryz.prog 172 #[.pointer (some ⟨bw, 0, none⟩), .int .i64 n] W' (WrEnd 67 bw v xs (nmL n) W')) := fun W' hb' => wn_int bw v xs n W' (h.below hb') hv hl
  have HA : Hid (WrAt 67 W bw v xs) := h
  clear hN hn hv hl h
  go_enter Tryz.func241, Tryz.ntmps241
  go_region_held2 (fun V => V.cell? ⟨s, 0, none⟩ = some (.func (.func 121) #[] #[]) ∧ V.cell? ⟨t, 0, none⟩ = some (.func (.func 172) #[] #[]) ∧ V.cell? ⟨b, 8, none⟩ = some (.int .i64 n))
    (first
    | exact ⟨hs, ht, hc⟩
    | go_keep)
    (first
    | (go_at_call 121; refine Calls.mono (at_of.says _ b) ?_; rintro e w2 ⟨rfl, hw2⟩; rw [hw2]; clear hw2)
    | (go_at_call 172; refine Calls.mono (HW.out _ (by first | exact Below.refl _ _ | exact below_drew (Below.refl _ _))) ?_; intro e w1 hE
       obtain ⟨v1, rfl, hq⟩ := (WrQ.start HA.out).ext (w1 := W.drew) (below_drew (Below.refl _ _)) |>.step (by rw [List.append_nil]; exact hE)
       have HQ : Hid (WrQ 67 W bw v xs w1 v1 (nmL n)) := hq
       have hs1 : w1.cell? ⟨s, 0, none⟩ = some (.func (.func 121) #[] #[]) := cell_low HQ.out.low hsb hs
       have ht1 : w1.cell? ⟨t, 0, none⟩ = some (.func (.func 172) #[] #[]) := cell_low HQ.out.low htb ht
       have hc1 : w1.cell? ⟨b, 8, none⟩ = some (.int .i64 n) := cell_low HQ.out.low hb hc
       clear hE hq hs ht hc)
    | fail)
  exact bodyPost_end (results_none rfl _ _ _) rfl (HQ.out.done rfl)
set_option maxHeartbeats 3200000 in
theorem wrt_cm (W : World) (b s t bw : Nat) (v : Value) (xs : List Int) (N : NoN) (hN : NB W b N) (hs : W.cell? ⟨s, 0, none⟩ = some (.func (.func 122) #[] #[])) (ht : W.cell? ⟨t, 0, none⟩ = some (.func (.func 172) #[] #[]))
    (h : WrAt 67 W bw v xs) (hb : b < bw) (hsb : s < bw) (htb : t < bw) (hv : inN N.cm) (hl : xs.length + (nmL N.cm).length ≤ 1000000) :
    Calls Tryz.prog 241 #[.pointer (some ⟨bw, 0, none⟩), .pointer (some ⟨b, 0, none⟩), .pointer (some ⟨t, 0, none⟩), .pointer (some ⟨s, 0, none⟩)] W (WrEnd 67 bw v xs (nmL N.cm) W) := by
  have hc := hN.cell (i := 9) (v := .int .i64 N.cm) rfl
  obtain ⟨n, hn⟩ : ∃ n, N.cm = n := ⟨_, rfl⟩
  rw [hn] at hc hv hl ⊢
  have HW : Hid (∀ W', Below W.heap.size W W' → Calls Tryz.prog 172 #[.pointer (some ⟨bw, 0, none⟩), .int .i64 n] W' (WrEnd 67 bw v xs (nmL n) W')) := fun W' hb' => wn_int bw v xs n W' (h.below hb') hv hl
  have HA : Hid (WrAt 67 W bw v xs) := h
  clear hN hn hv hl h
  go_enter Tryz.func241, Tryz.ntmps241
  go_region_held2 (fun V => V.cell? ⟨s, 0, none⟩ = some (.func (.func 122) #[] #[]) ∧ V.cell? ⟨t, 0, none⟩ = some (.func (.func 172) #[] #[]) ∧ V.cell? ⟨b, 9, none⟩ = some (.int .i64 n))
    (first
    | exact ⟨hs, ht, hc⟩
    | go_keep)
    (first
    | (go_at_call 122; refine Calls.mono (at_cm.says _ b) ?_; rintro e w2 ⟨rfl, hw2⟩; rw [hw2]; clear hw2)
    | (go_at_call 172; refine Calls.mono (HW.out _ (by first | exact Below.refl _ _ | exact below_drew (Below.refl _ _))) ?_; intro e w1 hE
       obtain ⟨v1, rfl, hq⟩ := (WrQ.start HA.out).ext (w1 := W.drew) (below_drew (Below.refl _ _)) |>.step (by rw [List.append_nil]; exact hE)
       have HQ : Hid (WrQ 67 W bw v xs w1 v1 (nmL n)) := hq
       have hs1 : w1.cell? ⟨s, 0, none⟩ = some (.func (.func 122) #[] #[]) := cell_low HQ.out.low hsb hs
       have ht1 : w1.cell? ⟨t, 0, none⟩ = some (.func (.func 172) #[] #[]) := cell_low HQ.out.low htb ht
       have hc1 : w1.cell? ⟨b, 9, none⟩ = some (.int .i64 n) := cell_low HQ.out.low hb hc
       clear hE hq hs ht hc)
    | fail)
  exact bodyPost_end (results_none rfl _ _ _) rfl (HQ.out.done rfl)
set_option maxHeartbeats 1600000 in
theorem wn_ops (bw : Nat) (v : Value) (xs : List Int) (a : Option Addr) (c : Nat) (L : List OpN) (u : Nat) (w0 w : World) (h : WrAt 67 w bw v xs) (hk : Bk w0 w bw) (hL : RowC w0 a 5 (L.map OpN.cl)) (hn : L.length ≤ 1000000) (ho : ∀ x ∈ L, OpN.Ok x) (hu : w.cell? ⟨u, 0, none⟩ = some (.func (.func 73) #[] #[])) (hl : xs.length + (lsL opL L).length ≤ 1000000) :
    Calls Tryz.prog 194 #[.pointer (some ⟨bw, 0, none⟩), .slice a L.length c, .pointer (some ⟨u, 0, none⟩)] w (WrEnd 67 bw v xs (lsL opL L) w) := by
  have HN : Hid _ := wl_Op bw v xs a c L w0 w h hk hL hn (fun x hx v xs W h hb hl => w_op bw v xs x W h (ho x hx) hl) hl
  clear h hk hL hn ho hl
  go_enter Tryz.func194, Tryz.ntmps194
  go_wp2_with (first
    | (go_at_call 72; refine Calls.mono HN.out ?_; rintro e w1 ⟨v1, rfl, ha, hb, hf⟩)
    | fail)
  exact bodyPost_end (results_none rfl _ _ _) rfl ⟨v1, rfl, ha, hb, hf⟩
set_option maxHeartbeats 3200000 in
theorem wrt_ops (W : World) (b s t u bw : Nat) (v : Value) (xs : List Int) (N : NoN) (w0 : World) (hN : NB W b N) (hs : W.cell? ⟨s, 0, none⟩ = some (.func (.func 139) #[] #[])) (ht : W.cell? ⟨t, 0, none⟩ = some (.func (.func 194) #[] #[.pointer (some ⟨u, 0, none⟩)])) (hu : W.cell? ⟨u, 0, none⟩ = some (.func (.func 73) #[] #[]))
    (h : WrAt 67 W bw v xs) (hk : Bk w0 W bw) (hA : RowC w0 N.opsA 5 (N.ops.map OpN.cl)) (hb : b < bw) (hsb : s < bw) (htb : t < bw) (hub : u < bw) (hn : N.ops.length ≤ 1000000) (ho : ∀ x ∈ N.ops, OpN.Ok x) (hl : xs.length + (lsL opL N.ops).length ≤ 1000000) :
    Calls Tryz.prog 252 #[.pointer (some ⟨bw, 0, none⟩), .pointer (some ⟨b, 0, none⟩), .pointer (some ⟨t, 0, none⟩), .pointer (some ⟨s, 0, none⟩)] W (WrEnd 67 bw v xs (lsL opL N.ops) W) := by
  have hc := hN.cell (i := 11) (v := .slice N.opsA N.ops.length N.opsC) rfl
  obtain ⟨a, c, L, hna, hnc, hnL⟩ : ∃ a c L, N.opsA = a ∧ N.opsC = c ∧ N.ops = L := ⟨_, _, _, rfl, rfl, rfl⟩
  rw [hna, hnc, hnL] at hc
  rw [hna, hnL] at hA
  rw [hnL] at hn ho hl ⊢
  have HW : Hid (∀ W', Below W.heap.size W W' → Calls Tryz.prog 194 #[.pointer (some ⟨bw, 0, none⟩), .slice a L.length c, .pointer (some ⟨u, 0, none⟩)] W' (WrEnd 67 bw v xs (lsL opL L) W')) := fun W' hb' => wn_ops bw v xs a c L u w0 W' (h.below hb') (hk.ext hb') hA hn ho (by rw [hb'.cell (p := ⟨u, 0, none⟩) (World.block_lt_of_cell? _ _ hu)]; exact hu) hl
  have HA : Hid (WrAt 67 W bw v xs) := h
  clear hN hna hnc hnL hA hn ho hl h hk
  go_enter Tryz.func252, Tryz.ntmps252
  go_region_held2 (fun V => V.cell? ⟨s, 0, none⟩ = some (.func (.func 139) #[] #[]) ∧ V.cell? ⟨t, 0, none⟩ = some (.func (.func 194) #[] #[.pointer (some ⟨u, 0, none⟩)]) ∧ V.cell? ⟨b, 11, none⟩ = some (.slice a L.length c))
    (first
    | exact ⟨hs, ht, hc⟩
    | go_keep)
    (first
    | (go_at_call 139; refine Calls.mono (at_ops.says _ b) ?_; rintro e w2 ⟨rfl, hw2⟩; rw [hw2]; clear hw2)
    | (go_at_call 194; refine Calls.mono (HW.out _ (by first | exact Below.refl _ _ | exact below_drew (Below.refl _ _))) ?_; intro e w1 hE
       obtain ⟨v1, rfl, hq⟩ := (WrQ.start HA.out).ext (w1 := W.drew) (below_drew (Below.refl _ _)) |>.step (by rw [List.append_nil]; exact hE)
       have HQ : Hid (WrQ 67 W bw v xs w1 v1 (lsL opL L)) := hq
       have hs1 : w1.cell? ⟨s, 0, none⟩ = some (.func (.func 139) #[] #[]) := cell_low HQ.out.low hsb hs
       have ht1 : w1.cell? ⟨t, 0, none⟩ = some (.func (.func 194) #[] #[.pointer (some ⟨u, 0, none⟩)]) := cell_low HQ.out.low htb ht
       have hc1 : w1.cell? ⟨b, 11, none⟩ = some (.slice a L.length c) := cell_low HQ.out.low hb hc
       clear hE hq hs ht hc)
    | fail)
  exact bodyPost_end (results_none rfl _ _ _) rfl (HQ.out.done rfl)
end Go.Proofs.YtdjfeomdiljaeaaGreatDoor
