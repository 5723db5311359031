/-
  fan: a new hub is asked.
-/
import Derived.Test.YtjcnigffpamcgaaGreatDoorYNew
import Derived.Deep.RegionHeld3
namespace Go.Proofs.YtjcnigffpamcgaaGreatDoor
open Go.RowKit Go.MuLone Go.Maps
set_option linter.unusedVariables false
set_option linter.unusedSimpArgs false

set_option maxHeartbeats 1600000 in
set_option maxRecDepth 100000 in
theorem bitsLen64_zero (w : World) : Calls Tryz.prog 227 #[.int .u64 0] w fun e w' => e = .returned (.int .i64 0) ∧ w' = w := by
  go_enter Tryz.func227, Tryz.ntmps227
  go_wp2_with fail
  go_ret
  exact ⟨by kernel_rfl, rfl⟩
set_option maxHeartbeats 1600000 in
theorem bitsLen_zero (w : World) : Calls Tryz.prog 141 #[.int .u64 0] w fun e w' => e = .returned (.int .i64 0) ∧ w' = w := by
  have HL : Hid _ := fun w => bitsLen64_zero w
  go_enter Tryz.func141, Tryz.ntmps141
  go_wp2_with (first | (go_at_call 227; refine Calls.mono (HL.out _) ?_; rintro e w1 ⟨rfl, hw1⟩; subst hw1) | fail)
  go_ret
  exact ⟨rfl, rfl⟩
set_option maxHeartbeats 1600000 in
theorem insertion_nil (w : World) : Calls Tryz.prog 217 #[.slice none 0 0, .int .i64 0, .int .i64 0] w fun e w' => e = .returned (.tuple #[]) ∧ w' = w := by
  go_enter Tryz.func217, Tryz.ntmps217
  go_wp2_with fail
  go_loopw [6] (fun i wr => i = .int .i64 1 ∧ wr = w) (fun _ _ => 0)
  case atStart => exact ⟨rfl, rfl⟩
  case round =>
    obtain ⟨rfl, hwr⟩ := hrel
    subst hwr
    go_wp2_with fail
    go_end0
    exact ⟨rfl, rfl⟩
set_option maxHeartbeats 1600000 in
theorem pdq_nil (w : World) : Calls Tryz.prog 140 #[.slice none 0 0, .int .i64 0, .int .i64 0, .int .i64 0] w fun e w' => e = .returned (.tuple #[]) ∧ w' = w := by
  have HI : Hid _ := fun w => insertion_nil w
  go_enter Tryz.func140, Tryz.ntmps140
  go_wp2_with fail
  go_loopw [1, 2] (fun i j wr => i = .int .i64 0 ∧ j = .int .i64 0 ∧ wr = w) (fun _ _ _ => 0)
  case atStart => exact ⟨rfl, rfl, rfl⟩
  case round =>
    obtain ⟨rfl, rfl, hwr⟩ := hrel
    subst hwr
    go_wp2_with (first | (go_at_call 217; refine Calls.mono (HI.out _) ?_; rintro e w1 ⟨rfl, hw1⟩; subst hw1) | fail)
    exact bodyPost_ret (results_none rfl _ _ _) rfl ⟨rfl, rfl⟩
set_option maxHeartbeats 1600000 in
theorem sort_nil (w : World) : Calls Tryz.prog 77 #[.slice none 0 0] w fun e w' => e = .returned (.tuple #[]) ∧ w' = w := by
  have HL : Hid _ := fun w => bitsLen_zero w
  have HP : Hid _ := fun w => pdq_nil w
  go_enter Tryz.func77, Tryz.ntmps77
  go_wp2_with (first
    | (go_at_call 141; refine Calls.mono (HL.out _) ?_; rintro e w1 ⟨rfl, hw1⟩; subst hw1)
    | (go_at_call 140; refine Calls.mono (HP.out _) ?_; rintro e w2 ⟨rfl, hw2⟩; subst hw2)
    | fail)
  go_end0
  exact ⟨rfl, rfl⟩
abbrev zPart : Value := .agg #[.int .i64 0, .int .i64 0, .string ⟨#[]⟩, .int .i64 0, .slice none 0 0]
set_option maxHeartbeats 1600000 in
theorem commit_new {w : World} {H tr mb : Nat} {room keep last : Int} (h : HubAt w H tr mb room keep 0 last) (a : Int) (c : Value) : Calls Tryz.prog 17 #[.pointer (some ⟨H, 0, none⟩), .int .i64 a, c, .pointer none] w fun e w' => e = .returned (.int .i64 1) ∧ w' = w := by
  have HI : Hid _ := isNone_some h
  clear h
  go_enter_defers Tryz.func17, Tryz.ntmps17
  go_wp2_with (first
    | (go_at_call 64; refine Calls.mono HI.out ?_; rintro e w1 ⟨rfl, hw1⟩; subst hw1)
    | fail)
  exact ⟨_, results_tmp rfl _ _ _, rfl, rfl⟩
set_option maxHeartbeats 1600000 in
theorem resume_new {w : World} {H tr mb : Nat} {room keep last : Int} (h : HubAt w H tr mb room keep 0 last) (a b c : Int) : Calls Tryz.prog 55 #[.pointer (some ⟨H, 0, none⟩), .int .i64 a, .int .i64 b, .int .i64 c, .slice none 0 0, .pointer none] w fun e w' => e = .returned (.int .i64 1) ∧ w' = w := by
  have HI : Hid _ := isNone_some h
  clear h
  go_enter_defers Tryz.func55, Tryz.ntmps55
  go_wp2_with (first
    | (go_at_call 64; refine Calls.mono HI.out ?_; rintro e w1 ⟨rfl, hw1⟩; subst hw1)
    | fail)
  exact ⟨_, results_tmp rfl _ _ _, rfl, rfl⟩
set_option maxHeartbeats 1600000 in
theorem resume_long {w : World} {H tr mb : Nat} {room keep last : Int} (h : HubAt w H tr mb room keep 0 last) (a b c : Int) (s : Option Addr) : Calls Tryz.prog 55 #[.pointer (some ⟨H, 0, none⟩), .int .i64 a, .int .i64 b, .int .i64 c, .slice s 5 5, .pointer none] w fun e w' => e = .returned (.int .i64 2) ∧ w' = w := by
  have HI : Hid _ := isNone_some h
  clear h
  go_enter_defers Tryz.func55, Tryz.ntmps55
  go_wp2_with (first
    | (go_at_call 64; refine Calls.mono HI.out ?_; rintro e w1 ⟨rfl, hw1⟩; subst hw1)
    | fail)
  exact ⟨_, results_tmp rfl _ _ _, rfl, rfl⟩
set_option maxHeartbeats 1600000 in
theorem watch_new {w : World} {H tr mb : Nat} {room keep last : Int} (h : HubAt w H tr mb room keep 0 last) (a b i k f : Int) (s : ByteArray) : Calls Tryz.prog 38 #[.pointer (some ⟨H, 0, none⟩), .int .i64 a, .int .i64 b, .agg #[.int .i64 i, .string s, .int .i64 k, .int .i64 f], .pointer none] w fun e w' => e = .returned (.tuple #[zPart, .int .i64 1]) ∧ Below w.heap.size w w' := by
  have HI : Hid (∀ w', Below w.heap.size w w' → Calls Tryz.prog 64 #[.pointer (some ⟨H, 0, none⟩)] w' fun e w'' => e = .returned (.bool false) ∧ w'' = w') := fun w' hb => isNone_some (h.below hb)
  clear h
  go_enter_defers Tryz.func38, Tryz.ntmps38
  go_wp2_with (first
    | (go_at_call 64; refine Calls.mono (HI.out _ (((Below.refl _ _).alloc (Nat.le_refl _) _).alloc (by simp) _)) ?_; rintro e w1 ⟨rfl, hw1⟩
       have HX : Hid (w1.heap[w.heap.size + 1]? = some (.cells #[.int .i64 0, .int .i64 0, .string ⟨#[]⟩, .int .i64 0, .slice none 0 0] 118 (0, 0)) ∧ Below w.heap.size w w1) := by rw [hw1]; exact ⟨heap_new' (by simp), ((Below.refl _ _).alloc (Nat.le_refl _) _).alloc (by simp) _⟩
       have hfr : ∀ o, w1.frozen? ⟨w.heap.size + 1, o, none⟩ = false := fun o => by simp [World.frozen?, HX.out.1]
       obtain ⟨e0, e1, e2, e3, e4⟩ := cells_5 HX.out.1
       clear hw1)
    | fail)
  exact ⟨_, results_cell_tmp rfl _ _ (w.heap.size + 1) 118 _ (0, 0) _ _ rfl rfl (fill_5 HX.out.1) Tryz.underlying118 rfl (by kernel_rfl), rfl, fillB_5 HX.out.2 (Nat.le_succ _)⟩
set_option maxHeartbeats 1600000 in
theorem watch_none {w : World} {p : Value} (h : NoneAt w p) (a b i k f : Int) (s : ByteArray) (m : Value) : Calls Tryz.prog 38 #[p, .int .i64 a, .int .i64 b, .agg #[.int .i64 i, .string s, .int .i64 k, .int .i64 f], m] w fun e w' => e = .returned (.tuple #[zPart, .int .i64 1]) ∧ Below w.heap.size w w' := by
  have HI : Hid (∀ w', Below w.heap.size w w' → Calls Tryz.prog 64 #[p] w' fun e w'' => e = .returned (.bool true) ∧ w'' = w') := fun w' hb => isNone_none (h.below hb)
  clear h
  go_enter_defers Tryz.func38, Tryz.ntmps38
  go_wp2_with (first
    | (go_at_call 64; refine Calls.mono (HI.out _ (((Below.refl _ _).alloc (Nat.le_refl _) _).alloc (by simp) _)) ?_; rintro e w1 ⟨rfl, hw1⟩
       have HX : Hid (w1.heap[w.heap.size + 1]? = some (.cells #[.int .i64 0, .int .i64 0, .string ⟨#[]⟩, .int .i64 0, .slice none 0 0] 118 (0, 0)) ∧ Below w.heap.size w w1) := by rw [hw1]; exact ⟨heap_new' (by simp), ((Below.refl _ _).alloc (Nat.le_refl _) _).alloc (by simp) _⟩
       have hfr : ∀ o, w1.frozen? ⟨w.heap.size + 1, o, none⟩ = false := fun o => by simp [World.frozen?, HX.out.1]
       obtain ⟨e0, e1, e2, e3, e4⟩ := cells_5 HX.out.1
       clear hw1)
    | fail)
  exact ⟨_, results_cell_tmp rfl _ _ (w.heap.size + 1) 118 _ (0, 0) _ _ rfl rfl (fill_5 HX.out.1) Tryz.underlying118 rfl (by kernel_rfl), rfl, fillB_5 HX.out.2 (Nat.le_succ _)⟩
set_option maxHeartbeats 1600000 in
theorem last_new {w : World} {H tr mb : Nat} {room keep last : Int} (h : HubAt w H tr mb room keep 0 last) : Calls Tryz.prog 29 #[.pointer (some ⟨H, 0, none⟩)] w fun e w' => e = .returned (.int .i64 last) ∧ Below w.heap.size w w' := by
  have HH : Hid (HubAt w H tr mb room keep 0 last) := h
  have HI : Hid _ := isNone_some h
  clear h
  go_enter_defers Tryz.func29, Tryz.ntmps29
  go_wp2_with (first
    | (go_at_call 64; refine Calls.mono HI.out ?_; rintro e w1 ⟨rfl, hw1⟩; subst hw1)
    | (go_at_call 65; refine (lock_free Tryz.muLib ⟨H, 2, none⟩ _ HH.out.cells.2.2.1 (HH.out.free 2)).mono ?_; rintro e w2 ⟨rfl, hw2⟩
       have HL : Hid (HubAt w2 H tr mb room keep 1 last ∧ (w1.setCell ⟨H, 2, none⟩ (.int .i32 1)) = w2) := by rw [hw2]; exact ⟨HH.out.locked, rfl⟩
       clear hw2
       obtain ⟨c0, c1, c2, c4, c5, c6, c7⟩ := HL.out.1.cells)
    | fail)
  refine leaves_cons (f := 66) (args := #[.pointer (some ⟨H, 2, none⟩)]) (by simp) (by simp [go_sem]) ?_
  refine (unlock_deferred Tryz.muLib ⟨H, 2, none⟩ .returning _ HL.out.1.cells.2.2.1 (HL.out.1.free 2)).mono ?_
  rintro e u' w'' ⟨rfl, rfl, rfl⟩
  exact ⟨_, results_tmp rfl _ _ _, rfl, HH.out.back (by rw [HL.out.2]; exact Below.refl _ _)⟩
set_option maxHeartbeats 1600000 in
theorem floorOf_any {w : World} {H tr mb : Nat} {room keep x last : Int} (h : HubAt w H tr mb room keep x last) (h0 : 0 ≤ last) (h1 : last ≤ 2147483647) : Calls Tryz.prog 79 #[.pointer (some ⟨H, 0, none⟩)] w fun e w' => e = .returned (.int .i64 last) ∧ Below w.heap.size w w' := by
  obtain ⟨c0, c1, c2, c4, c5, c6, c7⟩ := h.cells
  clear h
  go_enter Tryz.func79, Tryz.ntmps79
  go_wp2_with fail
  go_quiet (fail)
  go_wp2_with fail
  go_ret
  exact ⟨by first | rfl | simp, by first | exact below_drewN (Below.refl _ _) _ | exact Below.refl _ _⟩
set_option maxHeartbeats 1600000 in
theorem floor_new {w : World} {H tr mb : Nat} {room keep last : Int} (h : HubAt w H tr mb room keep 0 last) (h0 : 0 ≤ last) (h1 : last ≤ 2147483647) : Calls Tryz.prog 28 #[.pointer (some ⟨H, 0, none⟩)] w fun e w' => e = .returned (.int .i64 last) ∧ Below w.heap.size w w' := by
  have HR : Hid (0 ≤ last ∧ last ≤ 2147483647) := ⟨h0, h1⟩
  have HH : Hid (HubAt w H tr mb room keep 0 last) := h
  have HI : Hid _ := isNone_some h
  clear h
  clear h0 h1
  go_enter_defers Tryz.func28, Tryz.ntmps28
  go_wp2_with (first
    | (go_at_call 64; refine Calls.mono HI.out ?_; rintro e w1 ⟨rfl, hw1⟩; subst hw1)
    | (go_at_call 65; refine (lock_free Tryz.muLib ⟨H, 2, none⟩ _ HH.out.cells.2.2.1 (HH.out.free 2)).mono ?_; rintro e w2 ⟨rfl, hw2⟩
       have HL : Hid (HubAt w2 H tr mb room keep 1 last ∧ (w1.setCell ⟨H, 2, none⟩ (.int .i32 1)) = w2) := by rw [hw2]; exact ⟨HH.out.locked, rfl⟩
       clear hw2
       obtain ⟨c0, c1, c2, c4, c5, c6, c7⟩ := HL.out.1.cells)
    | (go_at_call 79; refine Calls.mono (floorOf_any HL.out.1 HR.out.1 HR.out.2) ?_; rintro e w3 ⟨rfl, hb3⟩
       have HB3 : Hid (Below w2.heap.size w2 w3) := hb3
       have H3 : Hid (HubAt w3 H tr mb room keep 1 last) := HL.out.1.below hb3
       clear hb3)
    | fail)
  refine leaves_cons (f := 66) (args := #[.pointer (some ⟨H, 2, none⟩)]) (by simp) (by simp [go_sem]) ?_
  refine (unlock_deferred Tryz.muLib ⟨H, 2, none⟩ .returning _ H3.out.cells.2.2.1 (H3.out.free 2)).mono ?_
  rintro e u' w'' ⟨rfl, rfl, rfl⟩
  exact ⟨_, results_tmp rfl _ _ _, rfl, HH.out.back (by rw [HL.out.2]; exact HB3.out)⟩
theorem zeroRes (w : World) : (zeroValue 174).run Tryz.prog w = .ok (.agg #[.int .i64 0, .pointer none]) w := by kernel_rfl
set_option maxHeartbeats 3200000 in
set_option maxRecDepth 100000 in
theorem next_new {w : World} {H tr mb : Nat} {room keep last : Int} (h : HubAt w H tr mb room keep 0 last) (b : Int) : Calls Tryz.prog 20 #[.pointer (some ⟨H, 0, none⟩), .int .i64 1, .int .i64 b] w fun e w' => e = .returned (.slice none 0 0) ∧ Below w.heap.size w w' := by
  have hfd : ∀ w : World, (Instr.field 174 (.agg #[.int .i64 0, .pointer none]) 1).run Tryz.prog w = .ok (.pointer none) w := fun w => by kernel_rfl
  have hkey : keyOf Tryz.prog 3 (.int .i64 1) = some (.int .i64 1) := keyOf_int_mk Tryz.underlying3 (by rfl)
  have HH : Hid (HubAt w H tr mb room keep 0 last) := h
  have HI : Hid _ := isNone_some h
  clear h
  go_enter_defers Tryz.func20, Tryz.ntmps20
  go_wp2_with (first
    | (go_at_call 64; refine Calls.mono HI.out ?_; rintro e w1 ⟨rfl, hw1⟩; subst hw1)
    | (go_at_call 65; refine (lock_free Tryz.muLib ⟨H, 2, none⟩ _ HH.out.cells.2.2.1 (HH.out.free 2)).mono ?_; rintro e w2 ⟨rfl, hw2⟩
       have HL : Hid (HubAt w2 H tr mb room keep 1 last ∧ (w1.setCell ⟨H, 2, none⟩ (.int .i32 1)) = w2) := by rw [hw2]; exact ⟨HH.out.locked, rfl⟩
       clear hw2
       obtain ⟨c0, c1, c2, c4, c5, c6, c7⟩ := HL.out.1.cells)
    | (at_lookup; refine wpList_lookup_rawY _ rfl _ _ 47 rfl 3 174 keyedI Tryz.underlying47 (zeroRes _) mb 0 (.map []) rfl HL.out.1.map _ (.int .i64 1) rfl hkey ?_; intro u ps hu; obtain rfl : u = .agg #[.int .i64 0, .pointer none] := (by simp only [rawY, Option.some.injEq, Prod.mk.injEq] at hu; have := hu.1; simpa [DataW.atKey] using this); clear hu)
    | (go_at_call 71; refine Calls.mono (next_none b _) ?_; rintro e w3 ⟨rfl, hb3⟩
       have HB3 : Hid (Below w2.heap.size w2 w3) := hb3
       have H3 : Hid (HubAt w3 H tr mb room keep 1 last) := HL.out.1.below hb3
       clear hb3)
    | fail)
  refine leaves_cons (f := 66) (args := #[.pointer (some ⟨H, 2, none⟩)]) (by simp) (by simp [go_sem]) ?_
  refine (unlock_deferred Tryz.muLib ⟨H, 2, none⟩ .returning _ H3.out.cells.2.2.1 (H3.out.free 2)).mono ?_
  rintro e u' w'' ⟨rfl, rfl, rfl⟩
  exact ⟨_, results_tmp rfl _ _ _, rfl, HH.out.back (by rw [HL.out.2]; exact HB3.out)⟩
set_option maxHeartbeats 3200000 in
set_option maxRecDepth 100000 in
theorem sessions_new {w : World} {H tr mb : Nat} {room keep last : Int} (h : HubAt w H tr mb room keep 0 last) : Calls Tryz.prog 27 #[.pointer (some ⟨H, 0, none⟩)] w fun e w' => e = .returned (.tuple #[.slice none 0 0, .slice none 0 0, .slice none 0 0]) ∧ Below w.heap.size w w' := by
  have HH : Hid (HubAt w H tr mb room keep 0 last) := h
  have HI : Hid _ := isNone_some h
  clear h
  have HS : Hid _ := fun w => sort_nil w
  go_enter_defers Tryz.func27, Tryz.ntmps27
  go_wp2_with (first
    | (go_at_call 64; refine Calls.mono HI.out ?_; rintro e w1 ⟨rfl, hw1⟩; subst hw1)
    | (go_at_call 65; refine (lock_free Tryz.muLib ⟨H, 2, none⟩ _ HH.out.cells.2.2.1 (HH.out.free 2)).mono ?_; rintro e w2 ⟨rfl, hw2⟩
       have HL : Hid (HubAt w2 H tr mb room keep 1 last ∧ (w1.setCell ⟨H, 2, none⟩ (.int .i32 1)) = w2) := by rw [hw2]; exact ⟨HH.out.locked, rfl⟩
       clear hw2
       obtain ⟨c0, c1, c2, c4, c5, c6, c7⟩ := HL.out.1.cells)
    | (at_range; go_loud (refine wpList_range_own _ rfl _ 47 rfl 3 174 keyedI Tryz.underlying47 rawY mb 0 (.map []) rfl HL.out.1.map ?_; intro w3 hrg3 hg3 hs3))
    | fail)
  go_frame
  have HB3 : Hid (Below w2.heap.size w2 w3) := (Below.refl _ _).grown hg3 (Nat.le_refl _) (fun j hj => by cases hj)
  clear hg3 hs3 c0 c1 c2 c4 c5 c6 c7
  go_loopw [5] (fun v wr => v = .slice none 0 0 ∧ wr = w3) (fun _ _ => 0)
  case atStart => exact ⟨rfl, rfl⟩
  case round =>
    obtain ⟨rfl, hwr⟩ := hrel
    subst hwr
    go_wp2_with (first
      | (at_next; go_loud (refine wpList_next_ranges _ rfl _ rfl 3 keyedI rawY (fun x : Value => x) (fun x : Value => x) (fun key kl hk => ⟨key, rfl⟩) (fun v y hv => ⟨v, rfl⟩) mb w2.heap.size 0 _ _ _ rfl hrg3 ?_ ?_))
      | fail)
    · intro hc0 hl0
      clear hc0 hl0 hrg3
      have H3 : Hid (HubAt wr H tr mb room keep 1 last) := HL.out.1.below HB3.out
      obtain ⟨c0, c1, c2, c4, c5, c6, c7⟩ := H3.out.cells
      go_wp2_with (first
        | (go_at_call 77; refine Calls.mono (HS.out _) ?_; rintro e w4 ⟨rfl, hw4⟩; subst hw4)
        | fail)
      go_loopw [6, 7, 37] (fun x y i wr' => x = .slice none 0 0 ∧ y = .slice none 0 0 ∧ i = .int .i64 0 ∧ wr' = w4) (fun _ _ _ _ => 0)
      case atStart => exact ⟨rfl, rfl, rfl, rfl⟩
      case round =>
        obtain ⟨rfl, rfl, rfl, hwr⟩ := hrel
        subst hwr
        go_wp2_with fail
        refine leaves_cons (f := 66) (args := #[.pointer (some ⟨H, 2, none⟩)]) (by simp) (by simp [go_sem]) ?_
        refine (unlock_deferred Tryz.muLib ⟨H, 2, none⟩ .returning _ H3.out.cells.2.2.1 (H3.out.free 2)).mono ?_
        rintro e u' w'' ⟨rfl, rfl, rfl⟩
        exact ⟨_, results_tmp3 rfl _ _ _, rfl, HH.out.back (by rw [HL.out.2]; exact HB3.out)⟩
    · intro x c kl yd yp w5 cnt' h1 h2 h3 h4 h5 h6 h7 h8 h9
      exact absurd h6 (Nat.not_lt_zero _)
end Go.Proofs.YtjcnigffpamcgaaGreatDoor
