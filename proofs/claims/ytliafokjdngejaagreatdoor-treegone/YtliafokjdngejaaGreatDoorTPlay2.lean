/-
  tree: Play of one op.
-/
import Derived.Test.YtliafokjdngejaaGreatDoorTPlayR
import Derived.Test.YtliafokjdngejaaGreatDoorShelfG
namespace Go.Proofs.YtliafokjdngejaaGreatDoor
open Go.RowKit Go.Maps
set_option linter.unusedVariables false
set_option linter.unusedSimpArgs false

set_option maxHeartbeats 3200000 in
theorem mayPlay_ok {w : World} {tb mb : Nat} (h : w.cell? ⟨tb, 0, none⟩ = some (.map (some mb))) (s st n : Int) (h0 : 0 ≤ s) (h1 : s ≤ 2147483647) (h2 : 1 ≤ st) (h3 : st ≤ 2147483647) (h4 : 1 ≤ n) (h5 : n ≤ 4) :
    Calls Tryz.prog 27 #[.pointer (some ⟨tb, 0, none⟩), .int .i64 s, .int .i64 st, .int .i64 n] w fun e w' => e = .returned (.int .i64 0) ∧ w' = w := by
  have HN : Hid _ := isNone_at tb (some mb) w h
  have q1 : ¬ s < 0 := by omega
  have q2 : ¬ 2147483647 < s := by omega
  have q3 : ¬ st < 1 := by omega
  have q4 : ¬ 2147483647 < st := by omega
  have q5 : ¬ 4 < n := by omega
  have q6 : (n == 0) = false := by simp; omega
  clear h h0 h1 h2 h3 h4 h5
  go_enter Tryz.func27, Tryz.ntmps27
  go_wp2_with (first | (go_at_call 35; refine Calls.mono HN.out ?_; rintro e w1 ⟨rfl, rfl⟩) | fail)
  go_ret
  exact ⟨rfl, rfl⟩

theorem cloneMap_any (b n : Nat) (D : DataW Value) (w : World) (hm : MapAt w b n D) :
    Calls Tryz.prog 28 #[.map (some b)] w fun e w' => e = .returned (.map (some w.heap.size)) ∧ MapAt w' w.heap.size n D ∧ Below w.heap.size w w' := by
  have h := AnyW.maps_Clone_owns Tryz.cloneM 9 raw b n D w hm
  refine Calls.mono h ?_
  rintro e w' ⟨h1, h2, _, h4⟩
  exact ⟨h1, h2, h4⟩

theorem Tryz.infoR : (Tryz.prog.info? 40).map (fun i => (i.zero, i.size, i.bytes)) = some (some (.agg #[.string ⟨#[]⟩, .string ⟨#[]⟩, .int .i64 0, .int .i64 0, .int .i64 0, .int .i64 0, .slice none 0 0]), 7, 88) := by kernel_rfl

set_option maxHeartbeats 16000000 in
set_option maxRecDepth 100000 in
/-- One op that is refused whatever the nodes. -/
theorem play1_mal {k : Int} (g1 : 1 ≤ k) (g7 : k ≤ 7) (base tb mb n ob : Nat) (D : DataW Value) (s st : Int) (p d : ByteArray) (v f : Int) (hf : k = 1 → 0 ≤ f ∧ f ≤ 3) (w : World) (hg : GroundT w) (hT : TreeAt w base tb mb n D) (hop : w.heap[ob]? = some (.cells #[.int .i64 k, .string p, .string d, .int .i64 v, .int .i64 f] 33 (0, 0)))
    (c : Int) (hc : malC s k p d f = c) (hc0 : c ≠ 0) (h0 : 0 ≤ s) (h1 : s ≤ 2147483647) (h2 : 1 ≤ st) (h3 : st ≤ 2147483647) :
    Calls Tryz.prog 10 #[.pointer (some ⟨tb, 0, none⟩), .int .i64 s, .int .i64 st, .slice (some ⟨ob, 0, none⟩) 1 1] w fun e w' => e = .returned (.tuple #[.agg #[.int .i64 st, .int .i64 c, .int .i64 0, .slice none 0 0], .slice none 0 0]) ∧ Below w.heap.size w w' := by
  obtain ⟨i0, hi0, hz0, hz1, hz2⟩ := info_parts Tryz.infoR
  have HMP : Hid (∀ W, W.cell? ⟨tb, 0, none⟩ = some (.map (some mb)) → Calls Tryz.prog 27 #[.pointer (some ⟨tb, 0, none⟩), .int .i64 s, .int .i64 st, .int .i64 1] W fun e w' => e = .returned (.int .i64 0) ∧ w' = W) := fun W hW => mayPlay_ok hW s st 1 h0 h1 h2 h3 (by decide) (by decide)
  have HPM : Hid (∀ W rb mb', GroundT W → ReqAt W w.heap.size rb mb' n D s st (.slice none 0 0) 0 [] → Calls Tryz.prog 29 #[.pointer (some ⟨rb, 0, none⟩), opV k p d v f] W fun e w' => e = .returned (.tuple #[.agg #[.string ⟨#[]⟩, .string ⟨#[]⟩, .int .i64 0, .int .i64 0, .int .i64 0, .int .i64 0, .slice none 0 0], .int .i64 c]) ∧ Below W.heap.size W w') := fun W rb mb' hW hR => play_mal g1 g7 w.heap.size rb mb' n D s st (.slice none 0 0) 0 [] p d v f hf W hW hR c hc hc0
  have HG : Hid _ := hg
  have HT : Hid _ := hT
  have HOP : Hid _ := hop
  have hcb : (c == 0) = false := by simp [hc0]
  have htl : tb < w.heap.size := (Array.getElem?_eq_some_iff.1 hT.box).1
  have hol : ob < w.heap.size := (Array.getElem?_eq_some_iff.1 hop).1
  have htc := cells_1 hT.box
  clear g1 g7 hf hg hT hop hc h0 h1 h2 h3
  go_enter Tryz.func10, Tryz.ntmps10
  have HW0 : Hid (Below w.heap.size w (w.alloc (.cells #[.int .i64 0, .int .i64 0, .int .i64 0, .slice none 0 0] 28))) := (Below.refl _ _).alloc (Nat.le_refl _) _
  have HCL : Hid _ := cloneMap_any mb n D (w.alloc (.cells #[.int .i64 0, .int .i64 0, .int .i64 0, .slice none 0 0] 28)) (map_below HT.out.map HW0.out)
  go_wp2_with (first
    | (go_at_call 27; refine (HMP.out _ (cells_1 (HT.out.below HW0.out).box)).mono ?_; rintro e w1 ⟨rfl, rfl⟩)
    | (go_at_call 28; refine Calls.mono HCL.out ?_; rintro e w1 ⟨rfl, hm1, hb1⟩
       have HB1 : Hid (Below w.heap.size w w1) := trans2 HW0.out hb1
       rw [World.size_alloc] at hm1
       have HM1 : Hid (MapAt w1 (w.heap.size + 1) n D) := hm1
       have HZ1 : Hid (w1.heap[w.heap.size]? = some (.cells #[.int .i64 0, .int .i64 0, .int .i64 0, .slice none 0 0] 28 (0, 0))) := kept_block hb1 (heap_alloc_new _ _)
       have hs1 : w.heap.size + 1 ≤ w1.heap.size := by have := hb1.size; simpa using this
       clear hb1 hm1 htc)
    | (at_make; refine wpList_make_full _ rfl _ _ _ rfl w.heap.size 40 i0 _ 7 Tryz.underlying26 hi0 hz0 hz1 .i64 .i64 1 1 1 rfl rfl rfl rfl (by rw [hz2]; decide) (by unfold maxLen; decide) (by simp; omega) ?_; intro w2 hown2 hgrow2
       have HO2 : Hid _ := hown2
       have HG2 : Hid _ := hgrow2
       clear hown2 hgrow2)
    | fail)
  have hs2 := HG2.out.size
  simp only [World.size_alloc] at hs2
  have HB12 : Hid (Below w1.heap.size w1 w2) := ((Chg.alloc w1 _ (fun _ => False)).trans ((Chg.grown HG2.out).mono (fun _ _ e => by cases e))).below (Nat.le_refl _) (fun _ _ h => h.elim)
  have HB2 : Hid (Below w.heap.size w w2) := trans2 HB1.out HB12.out
  have HR2 : Hid (ReqAt w2 w.heap.size w1.heap.size (w.heap.size + 1) n D s st (.slice none 0 0) 0 []) :=
    ⟨by rw [HG2.out.block w1.heap.size (by simp) (fun e => by cases e)]; exact heap_alloc_new _ _, map_below HM1.out HB12.out, World.ownsRow_nil _ _ _ _, by omega⟩
  have HGd2 : Hid (GroundT w2) := HG.out.below HB2.out
  have HOP2 : Hid _ := kept_block HB2.out HOP.out
  have HZ2 : Hid _ := kept_block HB12.out HZ1.out
  obtain ⟨o0, o1, o2, o3, o4⟩ := cells_5 HOP2.out
  refine wp_loop_rounds 1 ?_
  rw [rounds_succ]
  go_wp2_with fail
  refine (HPM.out _ w1.heap.size (w.heap.size + 1) (HGd2.out.below ((Below.refl _ _).alloc (Nat.le_refl _) _)) (HR2.out.below ((Below.refl _ _).alloc (Nat.le_refl _) _))).mono ?_
  rintro e w3 ⟨rfl, hb3⟩
  have HB3 : Hid (Below w.heap.size w w3) := trans2 (HB2.out.alloc (by omega) _) hb3
  have HZ3 : Hid (w3.heap[w.heap.size]? = some (.cells #[.int .i64 0, .int .i64 0, .int .i64 0, .slice none 0 0] 28 (0, 0))) := kept_block hb3 (new_old HZ2.out _)
  obtain ⟨z0, z1, z2, z3⟩ := cells_4 HZ3.out
  have hfz := free_4 HZ3.out
  have hzl3 : w.heap.size < w3.heap.size := (Array.getElem?_eq_some_iff.1 HZ3.out).1
  clear hb3 o0 o1 o2 o3 o4
  go_wp2_with fail
  exact bodyPost_ret (results_cell_tmp rfl _ _ w.heap.size 28 _ (0, 0) _ (.slice none 0 0) rfl rfl (new_old (fill_4 HZ3.out) _) Tryz.underlying28 rfl (by kernel_rfl)) rfl ⟨rfl, (fillB_4 HB3.out (Nat.le_refl _)).alloc (by have := HB3.out.size; simp; omega) _⟩
end Go.Proofs.YtliafokjdngejaaGreatDoor
