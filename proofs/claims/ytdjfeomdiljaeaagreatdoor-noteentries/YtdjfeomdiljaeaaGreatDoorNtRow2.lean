/-
  note: rows of numbers and of lists.
-/
import Derived.Test.YtdjfeomdiljaeaaGreatDoorNtRow
namespace Go.Proofs.YtdjfeomdiljaeaaGreatDoor
open Go.RowKit
set_option linter.unusedVariables false
set_option linter.unusedSimpArgs false

abbrev put5 (W : World) (g : Nat) (v0 v1 v2 v3 v4 : Value) : World := ((((W.setCell ⟨g, 0, none⟩ v0).setCell ⟨g, 1, none⟩ v1).setCell ⟨g, 2, none⟩ v2).setCell ⟨g, 3, none⟩ v3).setCell ⟨g, 4, none⟩ v4
theorem put5_in {W : World} {g : Nat} {z0 z1 z2 z3 z4 v0 v1 v2 v3 v4 : Value} {t : TypeId} (h : W.heap[g]? = some (.cells #[z0, z1, z2, z3, z4] t (0, 0))) : (put5 W g v0 v1 v2 v3 v4).heap[g]? = some (.cells #[v0, v1, v2, v3, v4] t (0, 0)) :=
  same_blk (same_blk (same_blk (same_blk (same_blk h rfl) rfl) rfl) rfl) rfl
theorem put5_out {W : World} {g b : Nat} {o : Obj} {v0 v1 v2 v3 v4 : Value} (h : W.heap[b]? = some o) (hne : b ≠ g) : (put5 W g v0 v1 v2 v3 v4).heap[b]? = some o :=
  other_blk (other_blk (other_blk (other_blk (other_blk h hne) hne) hne) hne) hne
theorem put5_cell {W : World} {g b : Nat} {x v0 v1 v2 v3 v4 : Value} (h : W.cell? ⟨b, 0, none⟩ = some x) (hne : b ≠ g) : (put5 W g v0 v1 v2 v3 v4).cell? ⟨b, 0, none⟩ = some x :=
  cellO_1 (cellO_1 (cellO_1 (cellO_1 (cellO_1 h hne) hne) hne) hne) hne
theorem put5_below {w W : World} {g : Nat} {v0 v1 v2 v3 v4 : Value} (h : Below w.heap.size w W) (hg : w.heap.size ≤ g) : Below w.heap.size w (put5 W g v0 v1 v2 v3 v4) := ext_set (ext_set (ext_set (ext_set (ext_set h hg) hg) hg) hg) hg
theorem below_cell {w W : World} {b : Nat} {v : Value} (hb : Below w.heap.size w W) (h : w.cell? ⟨b, 0, none⟩ = some v) : W.cell? ⟨b, 0, none⟩ = some v := by
  rw [hb.cell (p := ⟨b, 0, none⟩) (World.block_lt_of_cell? _ _ h)]
  exact h

set_option maxHeartbeats 3200000 in
theorem numF_int (nm : ByteArray) (low : Int) (A : Nat) (w : World) (s : Nat) (hs : w.heap.size = s) :
    Calls Tryz.prog 115 #[.string nm, .int .i64 low, .func (.func A) #[] #[]] w fun e w' => e = .returned (.agg #[.string nm, .func (.func 171) #[] #[ptV (s + 1), ptV s], .func (.func 240) #[] #[ptV (s + 3)], .func (.func 241) #[] #[ptV (s + 3 + 1), ptV (s + 3)], .func (.func 242) #[] #[ptV (s + 3 + 2), ptV (s + 3)]]) ∧
      w'.cell? ⟨s, 0, none⟩ = some (.int .i64 low) ∧ w'.cell? ⟨s + 1, 0, none⟩ = some (.func (.func A) #[] #[]) ∧ w'.cell? ⟨s + 3, 0, none⟩ = some (.func (.func A) #[] #[]) ∧ w'.cell? ⟨s + 3 + 1, 0, none⟩ = some (.func (.func 172) #[] #[]) ∧ w'.cell? ⟨s + 3 + 2, 0, none⟩ = some (.func (.func 173) #[] #[]) ∧ Below w.heap.size w w' := by
  have HS : Hid (w.heap.size = s) := hs
  have hc1 : ∀ (o1 o3 : Obj) (t : TypeId), (((w.alloc o1).alloc (.cells #[.func (.func A) #[] #[]] t)).alloc o3).cell? ⟨s + 1, 0, none⟩ = some (.func (.func A) #[] #[]) := fun o1 o3 t => cells_1 (new_old (heap_new' (by rw [World.size_alloc, hs])) _)
  have HC0 : Hid (∀ (o2 o3 : Obj) (t : TypeId), (((w.alloc (.cells #[.int .i64 low] t)).alloc o2).alloc o3).cell? ⟨s, 0, none⟩ = some (.int .i64 low)) := fun o2 o3 t => cells_1 (new_old (new_old (heap_new' hs) _) _)
  have HC1 : Hid (∀ (o1 o3 : Obj) (t : TypeId), (((w.alloc o1).alloc (.cells #[.func (.func A) #[] #[]] t)).alloc o3).cell? ⟨s + 1, 0, none⟩ = some (.func (.func A) #[] #[])) := hc1
  have HC2 : Hid (∀ (o1 o2 : Obj) (c : Array Value) (t : TypeId), (((w.alloc o1).alloc o2).alloc (.cells c t)).heap[s + 1 + 1]? = some (.cells c t (0, 0))) := fun o1 o2 c t => heap_new' (by rw [World.size_alloc, World.size_alloc, hs])
  go_enter Tryz.func115, Tryz.ntmps115
  go_upto_region 4 with fail
  obtain ⟨W3, hW3⟩ : ∃ W3, (((w.alloc (.cells #[.int .i64 low] 3)).alloc (.cells #[.func (.func A) #[] #[]] 178)).alloc (.cells #[.string ⟨#[]⟩, .nilFunc, .nilFunc, .nilFunc, .nilFunc] 148)) = W3 := ⟨_, rfl⟩
  have HB3 : Hid (Below w.heap.size w W3) := by rw [← hW3]; exact ext_alloc (ext_alloc (ext_alloc (Below.refl _ _) _) _) _
  have c1 : W3.cell? ⟨s + 1, 0, none⟩ = some (.func (.func A) #[] #[]) := by rw [← hW3]; exact HC1.out _ _ _
  have K0 : Hid (W3.cell? ⟨s, 0, none⟩ = some (.int .i64 low)) := by show _ = _; rw [← hW3]; exact HC0.out _ _ _
  have K1 : Hid (W3.cell? ⟨s + 1, 0, none⟩ = some (.func (.func A) #[] #[])) := c1
  have K2 : Hid (W3.heap[s + 1 + 1]? = some (.cells #[.string ⟨#[]⟩, .nilFunc, .nilFunc, .nilFunc, .nilFunc] 148 (0, 0))) := by show _ = _; rw [← hW3]; exact HC2.out _ _ _ _
  have K3 : Hid (W3.heap.size = s + 3) := by show _ = _; rw [← hW3, World.size_alloc, World.size_alloc, World.size_alloc, HS.out]
  rw [hW3]
  clear hW3 hc1 hs
  go_wp2_with (first
    | (go_at_call 174; refine Calls.mono (fieldOf_int _ _ _ _ _ _ _ _ _ (s + 3) K3.out) ?_; rintro e W4 ⟨rfl, k3, k4, k5, hb⟩
       have J0 : Hid (W4.cell? ⟨s, 0, none⟩ = some (.int .i64 low)) := below_cell hb K0.out
       have J1 : Hid (W4.cell? ⟨s + 1, 0, none⟩ = some (.func (.func A) #[] #[])) := below_cell hb K1.out
       have J2 : Hid (W4.heap[s + 1 + 1]? = some (.cells #[.string ⟨#[]⟩, .nilFunc, .nilFunc, .nilFunc, .nilFunc] 148 (0, 0))) := kept_block hb K2.out
       have J3 : Hid (_ ∧ _ ∧ _) := ⟨k3, k4, k5⟩
       have HB4 : Hid (Below w.heap.size w W4) := xtransN HB3.out hb
       clear k3 k4 k5 hb c1
       obtain ⟨z0, z1, z2, z3, z4⟩ := cells_5N J2.out
       have fz := free_ofN J2.out)
    | fail)
  refine ⟨rfl, _, results_midN rfl _ _ (s + 1 + 1) [.string nm, .func (.func 171) #[] #[ptV (s + 1), ptV s], .func (.func 240) #[] #[ptV (s + 3)], .func (.func 241) #[] #[ptV (s + 3 + 1), ptV (s + 3)], .func (.func 242) #[] #[ptV (s + 3 + 2), ptV (s + 3)]] _ rfl (range_of (put5_in J2.out)) Tryz.underlying148 rfl (by kernel_rfl), ?_⟩
  exact ⟨rfl, put5_cell J0.out (by omega), put5_cell J1.out (by omega), put5_cell J3.out.1 (by omega), put5_cell J3.out.2.1 (by omega), put5_cell J3.out.2.2 (by omega), put5_below HB4.out (by have := HS.out; omega)⟩
set_option maxHeartbeats 3200000 in
theorem numF_errno (nm : ByteArray) (low : Int) (A : Nat) (w : World) (s : Nat) (hs : w.heap.size = s) :
    Calls Tryz.prog 123 #[.string nm, .int .i64 low, .func (.func A) #[] #[]] w fun e w' => e = .returned (.agg #[.string nm, .func (.func 175) #[] #[ptV (s + 1), ptV s], .func (.func 243) #[] #[ptV (s + 3)], .func (.func 244) #[] #[ptV (s + 3 + 1), ptV (s + 3)], .func (.func 245) #[] #[ptV (s + 3 + 2), ptV (s + 3)]]) ∧
      w'.cell? ⟨s, 0, none⟩ = some (.int .i64 low) ∧ w'.cell? ⟨s + 1, 0, none⟩ = some (.func (.func A) #[] #[]) ∧ w'.cell? ⟨s + 3, 0, none⟩ = some (.func (.func A) #[] #[]) ∧ w'.cell? ⟨s + 3 + 1, 0, none⟩ = some (.func (.func 176) #[] #[]) ∧ w'.cell? ⟨s + 3 + 2, 0, none⟩ = some (.func (.func 177) #[] #[]) ∧ Below w.heap.size w w' := by
  have HS : Hid (w.heap.size = s) := hs
  have hc1 : ∀ (o1 o3 : Obj) (t : TypeId), (((w.alloc o1).alloc (.cells #[.func (.func A) #[] #[]] t)).alloc o3).cell? ⟨s + 1, 0, none⟩ = some (.func (.func A) #[] #[]) := fun o1 o3 t => cells_1 (new_old (heap_new' (by rw [World.size_alloc, hs])) _)
  have HC0 : Hid (∀ (o2 o3 : Obj) (t : TypeId), (((w.alloc (.cells #[.int .i64 low] t)).alloc o2).alloc o3).cell? ⟨s, 0, none⟩ = some (.int .i64 low)) := fun o2 o3 t => cells_1 (new_old (new_old (heap_new' hs) _) _)
  have HC1 : Hid (∀ (o1 o3 : Obj) (t : TypeId), (((w.alloc o1).alloc (.cells #[.func (.func A) #[] #[]] t)).alloc o3).cell? ⟨s + 1, 0, none⟩ = some (.func (.func A) #[] #[])) := hc1
  have HC2 : Hid (∀ (o1 o2 : Obj) (c : Array Value) (t : TypeId), (((w.alloc o1).alloc o2).alloc (.cells c t)).heap[s + 1 + 1]? = some (.cells c t (0, 0))) := fun o1 o2 c t => heap_new' (by rw [World.size_alloc, World.size_alloc, hs])
  go_enter Tryz.func123, Tryz.ntmps123
  go_upto_region 4 with fail
  obtain ⟨W3, hW3⟩ : ∃ W3, (((w.alloc (.cells #[.int .i64 low] 3)).alloc (.cells #[.func (.func A) #[] #[]] 181)).alloc (.cells #[.string ⟨#[]⟩, .nilFunc, .nilFunc, .nilFunc, .nilFunc] 148)) = W3 := ⟨_, rfl⟩
  have HB3 : Hid (Below w.heap.size w W3) := by rw [← hW3]; exact ext_alloc (ext_alloc (ext_alloc (Below.refl _ _) _) _) _
  have c1 : W3.cell? ⟨s + 1, 0, none⟩ = some (.func (.func A) #[] #[]) := by rw [← hW3]; exact HC1.out _ _ _
  have K0 : Hid (W3.cell? ⟨s, 0, none⟩ = some (.int .i64 low)) := by show _ = _; rw [← hW3]; exact HC0.out _ _ _
  have K1 : Hid (W3.cell? ⟨s + 1, 0, none⟩ = some (.func (.func A) #[] #[])) := c1
  have K2 : Hid (W3.heap[s + 1 + 1]? = some (.cells #[.string ⟨#[]⟩, .nilFunc, .nilFunc, .nilFunc, .nilFunc] 148 (0, 0))) := by show _ = _; rw [← hW3]; exact HC2.out _ _ _ _
  have K3 : Hid (W3.heap.size = s + 3) := by show _ = _; rw [← hW3, World.size_alloc, World.size_alloc, World.size_alloc, HS.out]
  rw [hW3]
  clear hW3 hc1 hs
  go_wp2_with (first
    | (go_at_call 178; refine Calls.mono (fieldOf_errno _ _ _ _ _ _ _ _ _ (s + 3) K3.out) ?_; rintro e W4 ⟨rfl, k3, k4, k5, hb⟩
       have J0 : Hid (W4.cell? ⟨s, 0, none⟩ = some (.int .i64 low)) := below_cell hb K0.out
       have J1 : Hid (W4.cell? ⟨s + 1, 0, none⟩ = some (.func (.func A) #[] #[])) := below_cell hb K1.out
       have J2 : Hid (W4.heap[s + 1 + 1]? = some (.cells #[.string ⟨#[]⟩, .nilFunc, .nilFunc, .nilFunc, .nilFunc] 148 (0, 0))) := kept_block hb K2.out
       have J3 : Hid (_ ∧ _ ∧ _) := ⟨k3, k4, k5⟩
       have HB4 : Hid (Below w.heap.size w W4) := xtransN HB3.out hb
       clear k3 k4 k5 hb c1
       obtain ⟨z0, z1, z2, z3, z4⟩ := cells_5N J2.out
       have fz := free_ofN J2.out)
    | fail)
  refine ⟨rfl, _, results_midN rfl _ _ (s + 1 + 1) [.string nm, .func (.func 175) #[] #[ptV (s + 1), ptV s], .func (.func 243) #[] #[ptV (s + 3)], .func (.func 244) #[] #[ptV (s + 3 + 1), ptV (s + 3)], .func (.func 245) #[] #[ptV (s + 3 + 2), ptV (s + 3)]] _ rfl (range_of (put5_in J2.out)) Tryz.underlying148 rfl (by kernel_rfl), ?_⟩
  exact ⟨rfl, put5_cell J0.out (by omega), put5_cell J1.out (by omega), put5_cell J3.out.1 (by omega), put5_cell J3.out.2.1 (by omega), put5_cell J3.out.2.2 (by omega), put5_below HB4.out (by have := HS.out; omega)⟩
set_option maxHeartbeats 3200000 in
theorem lstF_ops (nm : ByteArray) (A F WF RF : Nat) (w : World) (s : Nat) (hs : w.heap.size = s) :
    Calls Tryz.prog 138 #[.string nm, .func (.func A) #[] #[], .func (.func F) #[] #[], .func (.func WF) #[] #[], .func (.func RF) #[] #[]] w fun e w' => e = .returned (.agg #[.string nm, .func (.func F) #[] #[], .func (.func 251) #[] #[ptV (s + 3)], .func (.func 252) #[] #[ptV (s + 3 + 1), ptV (s + 3)], .func (.func 253) #[] #[ptV (s + 3 + 2), ptV (s + 3)]]) ∧
      w'.cell? ⟨s, 0, none⟩ = some (.func (.func WF) #[] #[]) ∧ w'.cell? ⟨s + 1, 0, none⟩ = some (.func (.func RF) #[] #[]) ∧ w'.cell? ⟨s + 3, 0, none⟩ = some (.func (.func A) #[] #[]) ∧ w'.cell? ⟨s + 3 + 1, 0, none⟩ = some (.func (.func 194) #[] #[ptV s]) ∧ w'.cell? ⟨s + 3 + 2, 0, none⟩ = some (.func (.func 195) #[] #[ptV (s + 1)]) ∧ Below w.heap.size w w' := by
  have HS : Hid (w.heap.size = s) := hs
  have HC0 : Hid (∀ (c : Array Value) (o2 o3 : Obj) (t : TypeId), (((w.alloc (.cells c t)).alloc o2).alloc o3).heap[s]? = some (.cells c t (0, 0))) := fun c o2 o3 t => new_old (new_old (heap_new' hs) _) _
  have HC1 : Hid (∀ (o1 o3 : Obj) (c : Array Value) (t : TypeId), (((w.alloc o1).alloc (.cells c t)).alloc o3).heap[s + 1]? = some (.cells c t (0, 0))) := fun o1 o3 c t => new_old (heap_new' (by rw [World.size_alloc, hs])) _
  have HC2 : Hid (∀ (o1 o2 : Obj) (c : Array Value) (t : TypeId), (((w.alloc o1).alloc o2).alloc (.cells c t)).heap[s + 1 + 1]? = some (.cells c t (0, 0))) := fun o1 o2 c t => heap_new' (by rw [World.size_alloc, World.size_alloc, hs])
  have HCS : Hid (∀ (o1 o2 o3 : Obj), (((w.alloc o1).alloc o2).alloc o3).heap.size = s + 3) := fun o1 o2 o3 => by rw [World.size_alloc, World.size_alloc, World.size_alloc, hs]
  go_enter Tryz.func138, Tryz.ntmps138
  go_upto_region 3 with fail
  go_wp2_with (first
    | (go_at_call 196; refine Calls.mono (fieldOf_ops _ _ _ _ _ _ _ _ _ (s + 3) (HCS.out _ _ _)) ?_; rintro e W4 ⟨rfl, k3, k4, k5, hb⟩
       have J0 : Hid (W4.cell? ⟨s, 0, none⟩ = some (.func (.func WF) #[] #[])) := cells_1 (kept_block hb (HC0.out _ _ _ _))
       have J1 : Hid (W4.cell? ⟨s + 1, 0, none⟩ = some (.func (.func RF) #[] #[])) := cells_1 (kept_block hb (HC1.out _ _ _ _))
       have J2 : Hid (W4.heap[s + 1 + 1]? = some (.cells #[.string ⟨#[]⟩, .nilFunc, .nilFunc, .nilFunc, .nilFunc] 148 (0, 0))) := kept_block hb (HC2.out _ _ _ _)
       have J3 : Hid (_ ∧ _ ∧ _) := ⟨k3, k4, k5⟩
       have HB4 : Hid (Below w.heap.size w W4) := xtransN (ext_alloc (ext_alloc (ext_alloc (Below.refl _ _) _) _) _) hb
       clear k3 k4 k5 hb
       obtain ⟨z0, z1, z2, z3, z4⟩ := cells_5N J2.out
       have fz := free_ofN J2.out)
    | fail)
  refine ⟨rfl, _, results_midN rfl _ _ (s + 1 + 1) [.string nm, .func (.func F) #[] #[], .func (.func 251) #[] #[ptV (s + 3)], .func (.func 252) #[] #[ptV (s + 3 + 1), ptV (s + 3)], .func (.func 253) #[] #[ptV (s + 3 + 2), ptV (s + 3)]] _ rfl (range_of (put5_in J2.out)) Tryz.underlying148 rfl (by kernel_rfl), ?_⟩
  exact ⟨rfl, put5_cell J0.out (by omega), put5_cell J1.out (by omega), put5_cell J3.out.1 (by omega), put5_cell J3.out.2.1 (by omega), put5_cell J3.out.2.2 (by omega), put5_below HB4.out (by have := HS.out; omega)⟩
set_option maxHeartbeats 3200000 in
theorem lstF_ents (nm : ByteArray) (A F WF RF : Nat) (w : World) (s : Nat) (hs : w.heap.size = s) :
    Calls Tryz.prog 141 #[.string nm, .func (.func A) #[] #[], .func (.func F) #[] #[], .func (.func WF) #[] #[], .func (.func RF) #[] #[]] w fun e w' => e = .returned (.agg #[.string nm, .func (.func F) #[] #[], .func (.func 254) #[] #[ptV (s + 3)], .func (.func 255) #[] #[ptV (s + 3 + 1), ptV (s + 3)], .func (.func 256) #[] #[ptV (s + 3 + 2), ptV (s + 3)]]) ∧
      w'.cell? ⟨s, 0, none⟩ = some (.func (.func WF) #[] #[]) ∧ w'.cell? ⟨s + 1, 0, none⟩ = some (.func (.func RF) #[] #[]) ∧ w'.cell? ⟨s + 3, 0, none⟩ = some (.func (.func A) #[] #[]) ∧ w'.cell? ⟨s + 3 + 1, 0, none⟩ = some (.func (.func 197) #[] #[ptV s]) ∧ w'.cell? ⟨s + 3 + 2, 0, none⟩ = some (.func (.func 199) #[] #[ptV (s + 1)]) ∧ Below w.heap.size w w' := by
  have HS : Hid (w.heap.size = s) := hs
  have HC0 : Hid (∀ (c : Array Value) (o2 o3 : Obj) (t : TypeId), (((w.alloc (.cells c t)).alloc o2).alloc o3).heap[s]? = some (.cells c t (0, 0))) := fun c o2 o3 t => new_old (new_old (heap_new' hs) _) _
  have HC1 : Hid (∀ (o1 o3 : Obj) (c : Array Value) (t : TypeId), (((w.alloc o1).alloc (.cells c t)).alloc o3).heap[s + 1]? = some (.cells c t (0, 0))) := fun o1 o3 c t => new_old (heap_new' (by rw [World.size_alloc, hs])) _
  have HC2 : Hid (∀ (o1 o2 : Obj) (c : Array Value) (t : TypeId), (((w.alloc o1).alloc o2).alloc (.cells c t)).heap[s + 1 + 1]? = some (.cells c t (0, 0))) := fun o1 o2 c t => heap_new' (by rw [World.size_alloc, World.size_alloc, hs])
  have HCS : Hid (∀ (o1 o2 o3 : Obj), (((w.alloc o1).alloc o2).alloc o3).heap.size = s + 3) := fun o1 o2 o3 => by rw [World.size_alloc, World.size_alloc, World.size_alloc, hs]
  go_enter Tryz.func141, Tryz.ntmps141
  go_upto_region 3 with fail
  go_wp2_with (first
    | (go_at_call 201; refine Calls.mono (fieldOf_ents _ _ _ _ _ _ _ _ _ (s + 3) (HCS.out _ _ _)) ?_; rintro e W4 ⟨rfl, k3, k4, k5, hb⟩
       have J0 : Hid (W4.cell? ⟨s, 0, none⟩ = some (.func (.func WF) #[] #[])) := cells_1 (kept_block hb (HC0.out _ _ _ _))
       have J1 : Hid (W4.cell? ⟨s + 1, 0, none⟩ = some (.func (.func RF) #[] #[])) := cells_1 (kept_block hb (HC1.out _ _ _ _))
       have J2 : Hid (W4.heap[s + 1 + 1]? = some (.cells #[.string ⟨#[]⟩, .nilFunc, .nilFunc, .nilFunc, .nilFunc] 148 (0, 0))) := kept_block hb (HC2.out _ _ _ _)
       have J3 : Hid (_ ∧ _ ∧ _) := ⟨k3, k4, k5⟩
       have HB4 : Hid (Below w.heap.size w W4) := xtransN (ext_alloc (ext_alloc (ext_alloc (Below.refl _ _) _) _) _) hb
       clear k3 k4 k5 hb
       obtain ⟨z0, z1, z2, z3, z4⟩ := cells_5N J2.out
       have fz := free_ofN J2.out)
    | fail)
  refine ⟨rfl, _, results_midN rfl _ _ (s + 1 + 1) [.string nm, .func (.func F) #[] #[], .func (.func 254) #[] #[ptV (s + 3)], .func (.func 255) #[] #[ptV (s + 3 + 1), ptV (s + 3)], .func (.func 256) #[] #[ptV (s + 3 + 2), ptV (s + 3)]] _ rfl (range_of (put5_in J2.out)) Tryz.underlying148 rfl (by kernel_rfl), ?_⟩
  exact ⟨rfl, put5_cell J0.out (by omega), put5_cell J1.out (by omega), put5_cell J3.out.1 (by omega), put5_cell J3.out.2.1 (by omega), put5_cell J3.out.2.2 (by omega), put5_below HB4.out (by have := HS.out; omega)⟩
set_option maxHeartbeats 3200000 in
theorem lstF_was (nm : ByteArray) (A F WF RF : Nat) (w : World) (s : Nat) (hs : w.heap.size = s) :
    Calls Tryz.prog 144 #[.string nm, .func (.func A) #[] #[], .func (.func F) #[] #[], .func (.func WF) #[] #[], .func (.func RF) #[] #[]] w fun e w' => e = .returned (.agg #[.string nm, .func (.func F) #[] #[], .func (.func 257) #[] #[ptV (s + 3)], .func (.func 258) #[] #[ptV (s + 3 + 1), ptV (s + 3)], .func (.func 259) #[] #[ptV (s + 3 + 2), ptV (s + 3)]]) ∧
      w'.cell? ⟨s, 0, none⟩ = some (.func (.func WF) #[] #[]) ∧ w'.cell? ⟨s + 1, 0, none⟩ = some (.func (.func RF) #[] #[]) ∧ w'.cell? ⟨s + 3, 0, none⟩ = some (.func (.func A) #[] #[]) ∧ w'.cell? ⟨s + 3 + 1, 0, none⟩ = some (.func (.func 203) #[] #[ptV s]) ∧ w'.cell? ⟨s + 3 + 2, 0, none⟩ = some (.func (.func 205) #[] #[ptV (s + 1)]) ∧ Below w.heap.size w w' := by
  have HS : Hid (w.heap.size = s) := hs
  have HC0 : Hid (∀ (c : Array Value) (o2 o3 : Obj) (t : TypeId), (((w.alloc (.cells c t)).alloc o2).alloc o3).heap[s]? = some (.cells c t (0, 0))) := fun c o2 o3 t => new_old (new_old (heap_new' hs) _) _
  have HC1 : Hid (∀ (o1 o3 : Obj) (c : Array Value) (t : TypeId), (((w.alloc o1).alloc (.cells c t)).alloc o3).heap[s + 1]? = some (.cells c t (0, 0))) := fun o1 o3 c t => new_old (heap_new' (by rw [World.size_alloc, hs])) _
  have HC2 : Hid (∀ (o1 o2 : Obj) (c : Array Value) (t : TypeId), (((w.alloc o1).alloc o2).alloc (.cells c t)).heap[s + 1 + 1]? = some (.cells c t (0, 0))) := fun o1 o2 c t => heap_new' (by rw [World.size_alloc, World.size_alloc, hs])
  have HCS : Hid (∀ (o1 o2 o3 : Obj), (((w.alloc o1).alloc o2).alloc o3).heap.size = s + 3) := fun o1 o2 o3 => by rw [World.size_alloc, World.size_alloc, World.size_alloc, hs]
  go_enter Tryz.func144, Tryz.ntmps144
  go_upto_region 3 with fail
  go_wp2_with (first
    | (go_at_call 207; refine Calls.mono (fieldOf_was _ _ _ _ _ _ _ _ _ (s + 3) (HCS.out _ _ _)) ?_; rintro e W4 ⟨rfl, k3, k4, k5, hb⟩
       have J0 : Hid (W4.cell? ⟨s, 0, none⟩ = some (.func (.func WF) #[] #[])) := cells_1 (kept_block hb (HC0.out _ _ _ _))
       have J1 : Hid (W4.cell? ⟨s + 1, 0, none⟩ = some (.func (.func RF) #[] #[])) := cells_1 (kept_block hb (HC1.out _ _ _ _))
       have J2 : Hid (W4.heap[s + 1 + 1]? = some (.cells #[.string ⟨#[]⟩, .nilFunc, .nilFunc, .nilFunc, .nilFunc] 148 (0, 0))) := kept_block hb (HC2.out _ _ _ _)
       have J3 : Hid (_ ∧ _ ∧ _) := ⟨k3, k4, k5⟩
       have HB4 : Hid (Below w.heap.size w W4) := xtransN (ext_alloc (ext_alloc (ext_alloc (Below.refl _ _) _) _) _) hb
       clear k3 k4 k5 hb
       obtain ⟨z0, z1, z2, z3, z4⟩ := cells_5N J2.out
       have fz := free_ofN J2.out)
    | fail)
  refine ⟨rfl, _, results_midN rfl _ _ (s + 1 + 1) [.string nm, .func (.func F) #[] #[], .func (.func 257) #[] #[ptV (s + 3)], .func (.func 258) #[] #[ptV (s + 3 + 1), ptV (s + 3)], .func (.func 259) #[] #[ptV (s + 3 + 2), ptV (s + 3)]] _ rfl (range_of (put5_in J2.out)) Tryz.underlying148 rfl (by kernel_rfl), ?_⟩
  exact ⟨rfl, put5_cell J0.out (by omega), put5_cell J1.out (by omega), put5_cell J3.out.1 (by omega), put5_cell J3.out.2.1 (by omega), put5_cell J3.out.2.2 (by omega), put5_below HB4.out (by have := HS.out; omega)⟩
set_option maxHeartbeats 3200000 in
theorem lstF_parts (nm : ByteArray) (A F WF RF : Nat) (w : World) (s : Nat) (hs : w.heap.size = s) :
    Calls Tryz.prog 149 #[.string nm, .func (.func A) #[] #[], .func (.func F) #[] #[], .func (.func WF) #[] #[], .func (.func RF) #[] #[]] w fun e w' => e = .returned (.agg #[.string nm, .func (.func F) #[] #[], .func (.func 261) #[] #[ptV (s + 3)], .func (.func 262) #[] #[ptV (s + 3 + 1), ptV (s + 3)], .func (.func 263) #[] #[ptV (s + 3 + 2), ptV (s + 3)]]) ∧
      w'.cell? ⟨s, 0, none⟩ = some (.func (.func WF) #[] #[]) ∧ w'.cell? ⟨s + 1, 0, none⟩ = some (.func (.func RF) #[] #[]) ∧ w'.cell? ⟨s + 3, 0, none⟩ = some (.func (.func A) #[] #[]) ∧ w'.cell? ⟨s + 3 + 1, 0, none⟩ = some (.func (.func 213) #[] #[ptV s]) ∧ w'.cell? ⟨s + 3 + 2, 0, none⟩ = some (.func (.func 215) #[] #[ptV (s + 1)]) ∧ Below w.heap.size w w' := by
  have HS : Hid (w.heap.size = s) := hs
  have HC0 : Hid (∀ (c : Array Value) (o2 o3 : Obj) (t : TypeId), (((w.alloc (.cells c t)).alloc o2).alloc o3).heap[s]? = some (.cells c t (0, 0))) := fun c o2 o3 t => new_old (new_old (heap_new' hs) _) _
  have HC1 : Hid (∀ (o1 o3 : Obj) (c : Array Value) (t : TypeId), (((w.alloc o1).alloc (.cells c t)).alloc o3).heap[s + 1]? = some (.cells c t (0, 0))) := fun o1 o3 c t => new_old (heap_new' (by rw [World.size_alloc, hs])) _
  have HC2 : Hid (∀ (o1 o2 : Obj) (c : Array Value) (t : TypeId), (((w.alloc o1).alloc o2).alloc (.cells c t)).heap[s + 1 + 1]? = some (.cells c t (0, 0))) := fun o1 o2 c t => heap_new' (by rw [World.size_alloc, World.size_alloc, hs])
  have HCS : Hid (∀ (o1 o2 o3 : Obj), (((w.alloc o1).alloc o2).alloc o3).heap.size = s + 3) := fun o1 o2 o3 => by rw [World.size_alloc, World.size_alloc, World.size_alloc, hs]
  go_enter Tryz.func149, Tryz.ntmps149
  go_upto_region 3 with fail
  go_wp2_with (first
    | (go_at_call 217; refine Calls.mono (fieldOf_parts _ _ _ _ _ _ _ _ _ (s + 3) (HCS.out _ _ _)) ?_; rintro e W4 ⟨rfl, k3, k4, k5, hb⟩
       have J0 : Hid (W4.cell? ⟨s, 0, none⟩ = some (.func (.func WF) #[] #[])) := cells_1 (kept_block hb (HC0.out _ _ _ _))
       have J1 : Hid (W4.cell? ⟨s + 1, 0, none⟩ = some (.func (.func RF) #[] #[])) := cells_1 (kept_block hb (HC1.out _ _ _ _))
       have J2 : Hid (W4.heap[s + 1 + 1]? = some (.cells #[.string ⟨#[]⟩, .nilFunc, .nilFunc, .nilFunc, .nilFunc] 148 (0, 0))) := kept_block hb (HC2.out _ _ _ _)
       have J3 : Hid (_ ∧ _ ∧ _) := ⟨k3, k4, k5⟩
       have HB4 : Hid (Below w.heap.size w W4) := xtransN (ext_alloc (ext_alloc (ext_alloc (Below.refl _ _) _) _) _) hb
       clear k3 k4 k5 hb
       obtain ⟨z0, z1, z2, z3, z4⟩ := cells_5N J2.out
       have fz := free_ofN J2.out)
    | fail)
  refine ⟨rfl, _, results_midN rfl _ _ (s + 1 + 1) [.string nm, .func (.func F) #[] #[], .func (.func 261) #[] #[ptV (s + 3)], .func (.func 262) #[] #[ptV (s + 3 + 1), ptV (s + 3)], .func (.func 263) #[] #[ptV (s + 3 + 2), ptV (s + 3)]] _ rfl (range_of (put5_in J2.out)) Tryz.underlying148 rfl (by kernel_rfl), ?_⟩
  exact ⟨rfl, put5_cell J0.out (by omega), put5_cell J1.out (by omega), put5_cell J3.out.1 (by omega), put5_cell J3.out.2.1 (by omega), put5_cell J3.out.2.2 (by omega), put5_below HB4.out (by have := HS.out; omega)⟩
set_option maxHeartbeats 3200000 in
theorem lstF_items (nm : ByteArray) (A F WF RF : Nat) (w : World) (s : Nat) (hs : w.heap.size = s) :
    Calls Tryz.prog 154 #[.string nm, .func (.func A) #[] #[], .func (.func F) #[] #[], .func (.func WF) #[] #[], .func (.func RF) #[] #[]] w fun e w' => e = .returned (.agg #[.string nm, .func (.func F) #[] #[], .func (.func 270) #[] #[ptV (s + 3)], .func (.func 271) #[] #[ptV (s + 3 + 1), ptV (s + 3)], .func (.func 272) #[] #[ptV (s + 3 + 2), ptV (s + 3)]]) ∧
      w'.cell? ⟨s, 0, none⟩ = some (.func (.func WF) #[] #[]) ∧ w'.cell? ⟨s + 1, 0, none⟩ = some (.func (.func RF) #[] #[]) ∧ w'.cell? ⟨s + 3, 0, none⟩ = some (.func (.func A) #[] #[]) ∧ w'.cell? ⟨s + 3 + 1, 0, none⟩ = some (.func (.func 223) #[] #[ptV s]) ∧ w'.cell? ⟨s + 3 + 2, 0, none⟩ = some (.func (.func 225) #[] #[ptV (s + 1)]) ∧ Below w.heap.size w w' := by
  have HS : Hid (w.heap.size = s) := hs
  have HC0 : Hid (∀ (c : Array Value) (o2 o3 : Obj) (t : TypeId), (((w.alloc (.cells c t)).alloc o2).alloc o3).heap[s]? = some (.cells c t (0, 0))) := fun c o2 o3 t => new_old (new_old (heap_new' hs) _) _
  have HC1 : Hid (∀ (o1 o3 : Obj) (c : Array Value) (t : TypeId), (((w.alloc o1).alloc (.cells c t)).alloc o3).heap[s + 1]? = some (.cells c t (0, 0))) := fun o1 o3 c t => new_old (heap_new' (by rw [World.size_alloc, hs])) _
  have HC2 : Hid (∀ (o1 o2 : Obj) (c : Array Value) (t : TypeId), (((w.alloc o1).alloc o2).alloc (.cells c t)).heap[s + 1 + 1]? = some (.cells c t (0, 0))) := fun o1 o2 c t => heap_new' (by rw [World.size_alloc, World.size_alloc, hs])
  have HCS : Hid (∀ (o1 o2 o3 : Obj), (((w.alloc o1).alloc o2).alloc o3).heap.size = s + 3) := fun o1 o2 o3 => by rw [World.size_alloc, World.size_alloc, World.size_alloc, hs]
  go_enter Tryz.func154, Tryz.ntmps154
  go_upto_region 3 with fail
  go_wp2_with (first
    | (go_at_call 227; refine Calls.mono (fieldOf_items _ _ _ _ _ _ _ _ _ (s + 3) (HCS.out _ _ _)) ?_; rintro e W4 ⟨rfl, k3, k4, k5, hb⟩
       have J0 : Hid (W4.cell? ⟨s, 0, none⟩ = some (.func (.func WF) #[] #[])) := cells_1 (kept_block hb (HC0.out _ _ _ _))
       have J1 : Hid (W4.cell? ⟨s + 1, 0, none⟩ = some (.func (.func RF) #[] #[])) := cells_1 (kept_block hb (HC1.out _ _ _ _))
       have J2 : Hid (W4.heap[s + 1 + 1]? = some (.cells #[.string ⟨#[]⟩, .nilFunc, .nilFunc, .nilFunc, .nilFunc] 148 (0, 0))) := kept_block hb (HC2.out _ _ _ _)
       have J3 : Hid (_ ∧ _ ∧ _) := ⟨k3, k4, k5⟩
       have HB4 : Hid (Below w.heap.size w W4) := xtransN (ext_alloc (ext_alloc (ext_alloc (Below.refl _ _) _) _) _) hb
       clear k3 k4 k5 hb
       obtain ⟨z0, z1, z2, z3, z4⟩ := cells_5N J2.out
       have fz := free_ofN J2.out)
    | fail)
  refine ⟨rfl, _, results_midN rfl _ _ (s + 1 + 1) [.string nm, .func (.func F) #[] #[], .func (.func 270) #[] #[ptV (s + 3)], .func (.func 271) #[] #[ptV (s + 3 + 1), ptV (s + 3)], .func (.func 272) #[] #[ptV (s + 3 + 2), ptV (s + 3)]] _ rfl (range_of (put5_in J2.out)) Tryz.underlying148 rfl (by kernel_rfl), ?_⟩
  exact ⟨rfl, put5_cell J0.out (by omega), put5_cell J1.out (by omega), put5_cell J3.out.1 (by omega), put5_cell J3.out.2.1 (by omega), put5_cell J3.out.2.2 (by omega), put5_below HB4.out (by have := HS.out; omega)⟩
end Go.Proofs.YtdjfeomdiljaeaaGreatDoor
