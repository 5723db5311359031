/-
  plain: bytes without a 0xC5.
-/
import Derived.Test.YtdjibjmhjofedacWFindsP
namespace Go.Proofs.Ytdjibjmhjofedac
open Go.RowKit
set_option linter.unusedVariables false

set_option maxHeartbeats 3200000 in
set_option maxRecDepth 100000 in
theorem plain_any (a : Option Addr) (c : Nat) (xs : List Int) (w : World) (h : Bys w a xs) (hb : Byt xs) (hm : xs.length ≤ 900000) :
    Calls Try.prog 8 #[.slice a xs.length c] w fun e w' => ∃ v, e = .returned v ∧ w'.ownsRow w.heap.size 5 1 v (plainL xs).length (bv (plainL xs)) ∧ Below w.heap.size w w' := by
  obtain ⟨i0, hi, hz0, hz1, hz2⟩ := info_parts Try.info5
  rcases h with rfl | ⟨b, o, rfl, hlt, hc⟩
  · go_enter Try.func8, Try.ntmps8
    go_wp2
    refine wp_loop_rounds 1 ?_
    rw [rounds_succ]
    go_wp2
    go_ret
    exact ⟨_, rfl, World.ownsRow_nil _ _ _ _, Below.refl _ _⟩
  · have HC : Hid _ := hc
    have HLT : Hid _ := hlt
    have HBY : Hid _ := hb
    clear hc hlt hb
    go_enter Try.func8, Try.ntmps8
    go_wp2
    go_loopw [3, 4] (fun u i wr => ∃ (k : Nat), i = .int .i64 k ∧ k ≤ xs.length ∧ Hid (wr.ownsRow w.heap.size 5 1 u k (bv (plainL (xs.take k)))) ∧ Hid (Below w.heap.size w wr)) (fun _ i _ => xs.length - (intOf i).toNat)
    case atStart => exact ⟨0, rfl, by omega, World.ownsRow_nil _ _ _ _, Below.refl _ _⟩
    case round =>
      obtain ⟨k, rfl, hkk, HO, HB⟩ := hrel
      by_cases hlt : k < xs.length
      · obtain ⟨x, hx⟩ : ∃ x, xs[k]? = some x := ⟨xs[k], List.getElem?_eq_getElem hlt⟩
        have hc : wr.cell? ⟨b, o + k, none⟩ = some (.int .u8 x) := by rw [HB.out.cell (p := ⟨b, o + k, none⟩) HLT.out]; exact HC.out k x hx
        have hx8 := HBY.out x (List.mem_of_getElem? hx)
        have HX : Hid _ := hx
        clear hx
        obtain ⟨y, hy⟩ : ∃ y, y = if x = 197 then 196 else x := ⟨_, rfl⟩
        have HY : Hid (y = if x = 197 then 196 else x) := hy
        clear hy
        by_cases hx197 : x = 197
        · have hy : y = 196 := by rw [HY.out, if_pos hx197]
          subst hx197
          subst hy
          go_wp2_with (first | (at_builtin; refine wpList_append_own _ rfl _ _ 26 rfl w.heap.size 5 i0 (.int .u8 0) 1 1 Try.underlying26 hi hz0 hz1 hz2 rfl (by decide) _ k (bv (plainL (xs.take k))) rfl (World.ownsRow.alloc HO.out _) ⟨wr.heap.size, 0, none⟩ 1 1 [.int .u8 196] rfl rfl (cell_one_new _ _ _) (fun x hx => by simp at hx; subst hx; rfl) (by unfold maxLen; omega) (by omega) (by have := HB.out.size; simp; omega) ?_; intro v' w2 ho hg _; obtain ⟨g', cap', rfl⟩ := ownsRow_succ ho; have HO2 : Hid _ := ho; have HB2 : Hid (Below w.heap.size w w2) := (HB.out.alloc HB.out.size _).grown hg (by have := HB.out.size; simp; omega) (fun j hj => (World.ownsRow.lt HO.out j hj).1); clear ho hg) | fail)
          go_roundw
          case rel => exact ⟨k + 1, by go_num, by omega, by rw [plain_step HX.out, bv_append]; exact HO2.out, HB2⟩
          case measure => simp [intOf]; omega
        · have hy : y = x := by rw [HY.out, if_neg hx197]
          subst hy
          go_wp2_with (first | (at_builtin; refine wpList_append_own _ rfl _ _ 26 rfl w.heap.size 5 i0 (.int .u8 0) 1 1 Try.underlying26 hi hz0 hz1 hz2 rfl (by decide) _ k (bv (plainL (xs.take k))) rfl (World.ownsRow.alloc HO.out _) ⟨wr.heap.size, 0, none⟩ 1 1 [.int .u8 y] rfl rfl (cell_one_new _ _ _) (fun x hx => by simp at hx; subst hx; rfl) (by unfold maxLen; omega) (by omega) (by have := HB.out.size; simp; omega) ?_; intro v' w2 ho hg _; obtain ⟨g', cap', rfl⟩ := ownsRow_succ ho; have HO2 : Hid _ := ho; have HB2 : Hid (Below w.heap.size w w2) := (HB.out.alloc HB.out.size _).grown hg (by have := HB.out.size; simp; omega) (fun j hj => (World.ownsRow.lt HO.out j hj).1); clear ho hg) | fail)
          go_roundw
          case rel => exact ⟨k + 1, by go_num, by omega, by rw [plain_step HX.out, bv_append, if_neg hx197]; exact HO2.out, HB2⟩
          case measure => simp [intOf]; omega
      · obtain rfl : k = xs.length := by omega
        go_wp2
        go_ret
        exact ⟨_, rfl, by rw [plain_len]; rw [List.take_length] at HO; exact HO.out, HB.out⟩
end Go.Proofs.Ytdjibjmhjofedac
