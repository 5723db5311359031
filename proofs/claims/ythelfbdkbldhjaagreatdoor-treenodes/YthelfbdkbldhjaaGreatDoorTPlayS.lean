/-
  tree: play: ops of a node that is there, or is not.
-/
import Derived.Test.YthelfbdkbldhjaaGreatDoorRefNames
namespace Go.Proofs.YthelfbdkbldhjaaGreatDoor
open Go.RowKit Go.Maps Go.WideShapes
set_option linter.unusedVariables false
set_option linter.unusedSimpArgs false
attribute [local go_sem ↓] Go.wp_at_zero Go.wp_at_succ

theorem look_run {W : World} {mb n : Nat} {D : DataW Value} {p : ByteArray} (h : MapAt W mb n D) (hp : p.size ≤ 1000) : (Instr.lookup 47 (.map (some mb)) (.string p) true).run Tryz.prog W = .ok (.tuple #[look D p, .bool (Maps.has D (ky p))]) W := by
  obtain ⟨v, ps, hrun, hv⟩ := h.look_ok keyed Tryz.underlying47 (zeroF W) (zd := .held zf) (zp := []) rfl (WideMaps.keyOf_string_mk Tryz.underlying9 (s := p) (by unfold maxLen; omega))
  rw [hrun, look_of hv]
set_option maxHeartbeats 16000000 in
set_option maxRecDepth 100000 in
theorem play_40 {k : Int} (hk2 : 2 ≤ k) (hk7 : k ≤ 7) (base rb mb n : Nat) (D : DataW Value) (s st : Int) (chV : Value) (cn : Nat) (cs : List Value) (p d : ByteArray) (v f : Int) (w : World) (hg : GroundT w) (hR : ReqAt w base rb mb n D s st chV cn cs) (hp : p.size ≤ 1000) (hl : look D p = zf) (hh : Maps.has D (ky p) = false)
    (hM : ∀ W, GroundT W → W.cell? ⟨rb, 0, none⟩ = some (.int .i64 s) → rb < W.heap.size → Calls Tryz.prog 61 #[.pointer (some ⟨rb, 0, none⟩), opV k p d v f] W fun e w' => e = .returned (.int .i64 0) ∧ Below W.heap.size W w') :
    Calls Tryz.prog 37 #[.pointer (some ⟨rb, 0, none⟩), opV k p d v f] w fun e w' => e = .returned (.tuple #[noRes, .int .i64 40]) ∧ Below w.heap.size w w' := by
  have HM : Hid _ := hM
  have HR : Hid _ := hR
  have HG : Hid _ := hg
  have HLK : Hid (∀ W, Below w.heap.size w W → (Instr.lookup 47 (.map (some mb)) (.string p) true).run Tryz.prog W = .ok (.tuple #[fuV ByteArray.empty ByteArray.empty 0 0 0 0 0, .bool false]) W) := fun W hb => by
    have := look_run (hR.below hb).map hp
    rw [hl, hh] at this
    exact this
  obtain ⟨kk, hkk⟩ : ∃ kk : Nat, k = kk ∧ 2 ≤ kk ∧ kk ≤ 7 := ⟨k.toNat, by omega, by omega, by omega⟩
  obtain ⟨rfl, hkk2, hkk7⟩ := hkk
  clear hR hg hM hl hh hk2 hk7
  go_enter Tryz.func37, Tryz.ntmps37
  have HW0 : Hid (Below w.heap.size w ((w.alloc (.cells #[.int .i64 kk, .string p, .string d, .int .i64 v, .int .i64 f] 63)).alloc (.cells #[.string ⟨#[]⟩, .string ⟨#[]⟩, .int .i64 0, .int .i64 0, .int .i64 0, .int .i64 0, .slice none 0 0] 87))) := ((Below.refl _ _).alloc (Nat.le_refl _) _).alloc (by simp) _
  have HR0 : Hid _ := HR.out.below HW0.out
  go_wp2_with fail
  refine (HM.out _ (HG.out.below HW0.out) (cells_4 HR0.out.box).1 HR0.out.lt.1).mono ?_
  rintro e w1 ⟨rfl, hb1⟩
  have HB1 : Hid (Below w.heap.size w w1) := trans2 HW0.out hb1
  have HO1 : Hid (w1.heap[w.heap.size]? = some (.cells #[.int .i64 kk, .string p, .string d, .int .i64 v, .int .i64 f] 63 (0, 0))) := kept_block hb1 (heap_alloc2_old _ _ _)
  have HZ1 : Hid (w1.heap[w.heap.size + 1]? = some (.cells #[.string ⟨#[]⟩, .string ⟨#[]⟩, .int .i64 0, .int .i64 0, .int .i64 0, .int .i64 0, .slice none 0 0] 87 (0, 0))) := kept_block hb1 (heap_alloc2_new _ _ _)
  have HR1 : Hid _ := HR0.out.below hb1
  have HG1 : Hid _ := HG.out.below HB1.out
  obtain ⟨o0, o1, o2, o3, o4⟩ := cells_5 HO1.out
  have n1 : w1.cell? ⟨0, kk * 6, none⟩ = some (.bool false) := by
    have h9 := HG1.out.need kk 0 false (by
      rcases (show kk = 2 ∨ kk = 3 ∨ kk = 4 ∨ kk = 5 ∨ kk = 6 ∨ kk = 7 by omega) with rfl | rfl | rfl | rfl | rfl | rfl <;> rfl)
    rw [Nat.add_zero, Nat.mul_comm] at h9
    exact h9
  have hk8 : (kk : Int) < 8 := by omega
  clear hb1
  go_upto_region 6 with fail
  have HSS : Hid (∀ W, Below w1.heap.size w1 W → W.cell? ⟨rb, 2, none⟩ = some (.map (some mb)) ∧ W.cell? ⟨w.heap.size, 1, none⟩ = some (.string p) ∧ (Instr.lookup 47 (.map (some mb)) (.string p) true).run Tryz.prog W = .ok (.tuple #[fuV ByteArray.empty ByteArray.empty 0 0 0 0 0, .bool false]) W) := fun W hb => ⟨(cells_4 (HR1.out.below hb).box).2.2.1, (cells_5 (kept_block hb HO1.out)).2.1, HLK.out W (trans2 HB1.out hb)⟩
  have hrl1 := HR1.out.lt.1
  have hol1 := (Array.getElem?_eq_some_iff.1 HO1.out).1
  have hzl1 := (Array.getElem?_eq_some_iff.1 HZ1.out).1
  clear o0 o1 o2 o3 o4 n1
  go_cut [7, 8] from 10 (fun s7 s8 wc => s7 = .pointer (some ⟨w1.heap.size, 0, none⟩) ∧ s8 = .bool false ∧ Hid (Below w1.heap.size w1 wc) ∧ Hid (wc.heap[w1.heap.size]? = some (.cells #[.string ByteArray.empty, .string ByteArray.empty, .int .i64 0, .int .i64 0, .int .i64 0, .int .i64 0, .int .i64 0] 45 (0, 0))))
  case first =>
    go_region_held3 (fun w' => w'.cell? ⟨rb, 2, none⟩ = some (.map (some mb)) ∧ w'.cell? ⟨w.heap.size, 1, none⟩ = some (.string p) ∧ (Instr.lookup 47 (.map (some mb)) (.string p) true).run Tryz.prog w' = .ok (.tuple #[fuV ByteArray.empty ByteArray.empty 0 0 0 0 0, .bool false]) w') (first
        | exact HSS.out _ (below_drew (Below.refl _ _))
        | exact HSS.out _ ((below_drew (Below.refl _ _)).alloc (by simp) _)
        | exact HSS.out _ (fillB_7 ((below_drew (Below.refl _ _)).alloc (by simp) _) (by simp))) (fail)
    all_goals (
      go_wp2_with fail
      go_meet
      case rel => first | exact ⟨rfl, rfl, below_drew ((Below.refl _ _).alloc (Nat.le_refl _) _), heap_alloc_new _ _⟩ | exact ⟨rfl, rfl, fillB_7 ((below_drew (Below.refl _ _)).alloc (by simp) _) (by simp), fill_7 (heap_alloc_new _ _)⟩)
  case rest =>
  obtain ⟨rfl, rfl, HBc, HFc⟩ := hcut
  obtain ⟨nb, hnb⟩ : ∃ nb, w1.heap.size = nb := ⟨_, rfl⟩
  have HB2 : Hid (Below w.heap.size w wc) := trans2 HB1.out HBc.out
  have HO2 : Hid _ := kept_block HBc.out HO1.out
  have HZ2 : Hid _ := kept_block HBc.out HZ1.out
  have HR2 : Hid _ := HR1.out.below HBc.out
  have HG2 : Hid _ := HG1.out.below HBc.out
  have hnbo : w.heap.size + 1 < nb := by omega
  have hnbr : rb < nb := by omega
  rw [hnb] at HFc ⊢
  clear hnb HSS HLK
  obtain ⟨b0, b1, b2, b3, b4, b5, b6⟩ := cells_7 HZ2.out
  have hfz := free_7 HZ2.out
  go_wp2_with fail
  exact bodyPost_ret (results_cell_tmp rfl _ _ (w.heap.size + 1) 87 _ (0, 0) _ (.int .i64 40) rfl rfl (fill_7 HZ2.out) Tryz.underlying87 rfl (by kernel_rfl)) rfl ⟨rfl, fillB_7 HB2.out (by omega)⟩
set_option maxHeartbeats 16000000 in
set_option maxRecDepth 100000 in
theorem play_mis {k : Int} (hk2 : 2 ≤ k) (hk7 : k ≤ 7) (base rb mb n : Nat) (D : DataW Value) (s st : Int) (chV : Value) (cn : Nat) (cs : List Value) (p d : ByteArray) (v f : Int) (w : World) (hg : GroundT w) (hR : ReqAt w base rb mb n D s st chV cn cs) (hp : p.size ≤ 1000) (np nd : ByteArray) (nv nm nc no nk : Int)  (hl : look D p = fuV np nd nv nm nc no nk) (hh : Maps.has D (ky p) = true) (c : Int)
    (hF : ∀ W, Below w.heap.size w W → Calls Tryz.prog 63 #[.pointer (some ⟨rb, 0, none⟩), opV k p d v f, fuV np nd nv nm nc no nk] W fun e w' => e = .returned (.int .i64 c) ∧ Below W.heap.size W w') (hc : c ≠ 0)
    (hM : ∀ W, GroundT W → W.cell? ⟨rb, 0, none⟩ = some (.int .i64 s) → rb < W.heap.size → Calls Tryz.prog 61 #[.pointer (some ⟨rb, 0, none⟩), opV k p d v f] W fun e w' => e = .returned (.int .i64 0) ∧ Below W.heap.size W w') :
    Calls Tryz.prog 37 #[.pointer (some ⟨rb, 0, none⟩), opV k p d v f] w fun e w' => e = .returned (.tuple #[noRes, .int .i64 c]) ∧ Below w.heap.size w w' := by
  have HF : Hid _ := hF
  have hcb : (c == 0) = false := by simp [hc]
  have hcn : (c != 0) = true := by simp [hc]
  clear hF hc
  have HM : Hid _ := hM
  have HR : Hid _ := hR
  have HG : Hid _ := hg
  have HLK : Hid (∀ W, Below w.heap.size w W → (Instr.lookup 47 (.map (some mb)) (.string p) true).run Tryz.prog W = .ok (.tuple #[fuV np nd nv nm nc no nk, .bool true]) W) := fun W hb => by
    have := look_run (hR.below hb).map hp
    rw [hl, hh] at this
    exact this
  obtain ⟨kk, hkk⟩ : ∃ kk : Nat, k = kk ∧ 2 ≤ kk ∧ kk ≤ 7 := ⟨k.toNat, by omega, by omega, by omega⟩
  obtain ⟨rfl, hkk2, hkk7⟩ := hkk
  clear hR hg hM hl hh hk2 hk7
  go_enter Tryz.func37, Tryz.ntmps37
  have HW0 : Hid (Below w.heap.size w ((w.alloc (.cells #[.int .i64 kk, .string p, .string d, .int .i64 v, .int .i64 f] 63)).alloc (.cells #[.string ⟨#[]⟩, .string ⟨#[]⟩, .int .i64 0, .int .i64 0, .int .i64 0, .int .i64 0, .slice none 0 0] 87))) := ((Below.refl _ _).alloc (Nat.le_refl _) _).alloc (by simp) _
  have HR0 : Hid _ := HR.out.below HW0.out
  go_wp2_with fail
  refine (HM.out _ (HG.out.below HW0.out) (cells_4 HR0.out.box).1 HR0.out.lt.1).mono ?_
  rintro e w1 ⟨rfl, hb1⟩
  have HB1 : Hid (Below w.heap.size w w1) := trans2 HW0.out hb1
  have HO1 : Hid (w1.heap[w.heap.size]? = some (.cells #[.int .i64 kk, .string p, .string d, .int .i64 v, .int .i64 f] 63 (0, 0))) := kept_block hb1 (heap_alloc2_old _ _ _)
  have HZ1 : Hid (w1.heap[w.heap.size + 1]? = some (.cells #[.string ⟨#[]⟩, .string ⟨#[]⟩, .int .i64 0, .int .i64 0, .int .i64 0, .int .i64 0, .slice none 0 0] 87 (0, 0))) := kept_block hb1 (heap_alloc2_new _ _ _)
  have HR1 : Hid _ := HR0.out.below hb1
  have HG1 : Hid _ := HG.out.below HB1.out
  obtain ⟨o0, o1, o2, o3, o4⟩ := cells_5 HO1.out
  have n1 : w1.cell? ⟨0, kk * 6, none⟩ = some (.bool false) := by
    have h9 := HG1.out.need kk 0 false (by
      rcases (show kk = 2 ∨ kk = 3 ∨ kk = 4 ∨ kk = 5 ∨ kk = 6 ∨ kk = 7 by omega) with rfl | rfl | rfl | rfl | rfl | rfl <;> rfl)
    rw [Nat.add_zero, Nat.mul_comm] at h9
    exact h9
  have hk8 : (kk : Int) < 8 := by omega
  clear hb1
  go_upto_region 6 with fail
  have HSS : Hid (∀ W, Below w1.heap.size w1 W → W.cell? ⟨rb, 2, none⟩ = some (.map (some mb)) ∧ W.cell? ⟨w.heap.size, 1, none⟩ = some (.string p) ∧ (Instr.lookup 47 (.map (some mb)) (.string p) true).run Tryz.prog W = .ok (.tuple #[fuV np nd nv nm nc no nk, .bool true]) W) := fun W hb => ⟨(cells_4 (HR1.out.below hb).box).2.2.1, (cells_5 (kept_block hb HO1.out)).2.1, HLK.out W (trans2 HB1.out hb)⟩
  have hrl1 := HR1.out.lt.1
  have hol1 := (Array.getElem?_eq_some_iff.1 HO1.out).1
  have hzl1 := (Array.getElem?_eq_some_iff.1 HZ1.out).1
  clear o0 o1 o2 o3 o4 n1
  go_cut [7, 8] from 10 (fun s7 s8 wc => s7 = .pointer (some ⟨w1.heap.size, 0, none⟩) ∧ s8 = .bool true ∧ Hid (Below w1.heap.size w1 wc) ∧ Hid (wc.heap[w1.heap.size]? = some (.cells #[.string np, .string nd, .int .i64 nv, .int .i64 nm, .int .i64 nc, .int .i64 no, .int .i64 nk] 45 (0, 0))))
  case first =>
    go_region_held3 (fun w' => w'.cell? ⟨rb, 2, none⟩ = some (.map (some mb)) ∧ w'.cell? ⟨w.heap.size, 1, none⟩ = some (.string p) ∧ (Instr.lookup 47 (.map (some mb)) (.string p) true).run Tryz.prog w' = .ok (.tuple #[fuV np nd nv nm nc no nk, .bool true]) w') (first
        | exact HSS.out _ (below_drew (Below.refl _ _))
        | exact HSS.out _ ((below_drew (Below.refl _ _)).alloc (by simp) _)
        | exact HSS.out _ (fillB_7 ((below_drew (Below.refl _ _)).alloc (by simp) _) (by simp))) (fail)
    all_goals (
      go_wp2_with fail
      go_meet
      case rel => first | exact ⟨rfl, rfl, below_drew ((Below.refl _ _).alloc (Nat.le_refl _) _), heap_alloc_new _ _⟩ | exact ⟨rfl, rfl, fillB_7 ((below_drew (Below.refl _ _)).alloc (by simp) _) (by simp), fill_7 (heap_alloc_new _ _)⟩)
  case rest =>
  obtain ⟨rfl, rfl, HBc, HFc⟩ := hcut
  obtain ⟨nb, hnb⟩ : ∃ nb, w1.heap.size = nb := ⟨_, rfl⟩
  have HB2 : Hid (Below w.heap.size w wc) := trans2 HB1.out HBc.out
  have HO2 : Hid _ := kept_block HBc.out HO1.out
  have HZ2 : Hid _ := kept_block HBc.out HZ1.out
  have HR2 : Hid _ := HR1.out.below HBc.out
  have HG2 : Hid _ := HG1.out.below HBc.out
  have hnbo : w.heap.size + 1 < nb := by omega
  have hnbr : rb < nb := by omega
  rw [hnb] at HFc ⊢
  clear hnb HSS HLK
  obtain ⟨o0, o1, o2, o3, o4⟩ := cells_5 HO2.out
  obtain ⟨a0, a1, a2, a3, a4, a5, a6⟩ := cells_7 HFc.out
  go_wp2_with fail
  refine (HF.out _ HB2.out).mono ?_
  rintro e w3 ⟨rfl, hb3⟩
  have HB3 : Hid (Below w.heap.size w w3) := trans2 HB2.out hb3
  have HO3 : Hid _ := kept_block hb3 HO2.out
  have HZ3 : Hid _ := kept_block hb3 HZ2.out
  have HF3 : Hid _ := kept_block hb3 HFc.out
  have HR3 : Hid _ := HR2.out.below hb3
  clear hb3 o0 o1 o2 o3 o4 a0 a1 a2 a3 a4 a5 a6
  obtain ⟨b0, b1, b2, b3, b4, b5, b6⟩ := cells_7 HZ3.out
  have hfz := free_7 HZ3.out
  go_wp2_with fail
  exact bodyPost_ret (results_cell_tmp rfl _ _ (w.heap.size + 1) 87 _ (0, 0) _ (.int .i64 c) rfl rfl (fill_7 HZ3.out) Tryz.underlying87 rfl (by kernel_rfl)) rfl ⟨rfl, fillB_7 HB3.out (by omega)⟩
end Go.Proofs.YthelfbdkbldhjaaGreatDoor
namespace Go.Proofs.YthelfbdkbldhjaaGreatDoor
open Go.RowKit Go.Maps Go.WideShapes
set_option linter.unusedVariables false
set_option linter.unusedSimpArgs false
attribute [local go_sem ↓] Go.wp_at_zero Go.wp_at_succ

set_option maxHeartbeats 16000000 in
set_option maxRecDepth 100000 in
theorem play_set {k : Int} (hk2 : 2 ≤ k) (hk7 : k ≤ 7) (base rb mb n : Nat) (D : DataW Value) (s st : Int) (chV : Value) (cn : Nat) (cs : List Value) (p d : ByteArray) (v f : Int) (w : World) (hg : GroundT w) (hR : ReqAt w base rb mb n D s st chV cn cs) (hp : p.size ≤ 1000) (hk : k = 2) (np nd : ByteArray) (nv nm nc no nk : Int)  (hl : look D p = fuV np nd nv nm nc no nk) (hh : Maps.has D (ky p) = true)
    (hF : ∀ W, Below w.heap.size w W → Calls Tryz.prog 63 #[.pointer (some ⟨rb, 0, none⟩), opV k p d v f, fuV np nd nv nm nc no nk] W fun e w' => e = .returned (.int .i64 0) ∧ Below W.heap.size W w')
    (hM : ∀ W, GroundT W → W.cell? ⟨rb, 0, none⟩ = some (.int .i64 s) → rb < W.heap.size → Calls Tryz.prog 61 #[.pointer (some ⟨rb, 0, none⟩), opV k p d v f] W fun e w' => e = .returned (.int .i64 0) ∧ Below W.heap.size W w') (M : Int × List Nd × ResT × List ChT) (hM0 : M.1 = 0)
    (hK : ∀ W, Below w.heap.size w W → Calls Tryz.prog 64 #[.pointer (some ⟨rb, 0, none⟩), fuV np nd nv nm nc no nk, .string d] W fun e w' => ∃ ka kn kc, e = .returned (ReqE.V M.2.2.1 ka kn kc) ∧ ReqE W base rb mb n s st chV cn cs M.2.2.1 M.2.1 M.2.2.2 ka kn kc w') :
    Calls Tryz.prog 37 #[.pointer (some ⟨rb, 0, none⟩), opV k p d v f] w (PlayEnd w base rb mb n s st chV cn cs M) := by
  have HF : Hid _ := hF
  have HK : Hid _ := hK
  obtain ⟨mc, MT, ⟨mp, md, mv, mm, mmc, mo, mkids⟩, Mch⟩ := M
  obtain rfl : mc = 0 := hM0
  clear hF hK
  have HKE : Hid (k = 2) := hk
  clear hk
  have HM : Hid _ := hM
  have HR : Hid _ := hR
  have HG : Hid _ := hg
  have HLK : Hid (∀ W, Below w.heap.size w W → (Instr.lookup 47 (.map (some mb)) (.string p) true).run Tryz.prog W = .ok (.tuple #[fuV np nd nv nm nc no nk, .bool true]) W) := fun W hb => by
    have := look_run (hR.below hb).map hp
    rw [hl, hh] at this
    exact this
  obtain ⟨kk, hkk⟩ : ∃ kk : Nat, k = kk ∧ 2 ≤ kk ∧ kk ≤ 7 := ⟨k.toNat, by omega, by omega, by omega⟩
  obtain ⟨rfl, hkk2, hkk7⟩ := hkk
  clear hR hg hM hl hh hk2 hk7
  go_enter Tryz.func37, Tryz.ntmps37
  have HW0 : Hid (Below w.heap.size w ((w.alloc (.cells #[.int .i64 kk, .string p, .string d, .int .i64 v, .int .i64 f] 63)).alloc (.cells #[.string ⟨#[]⟩, .string ⟨#[]⟩, .int .i64 0, .int .i64 0, .int .i64 0, .int .i64 0, .slice none 0 0] 87))) := ((Below.refl _ _).alloc (Nat.le_refl _) _).alloc (by simp) _
  have HR0 : Hid _ := HR.out.below HW0.out
  go_wp2_with fail
  refine (HM.out _ (HG.out.below HW0.out) (cells_4 HR0.out.box).1 HR0.out.lt.1).mono ?_
  rintro e w1 ⟨rfl, hb1⟩
  have HB1 : Hid (Below w.heap.size w w1) := trans2 HW0.out hb1
  have HO1 : Hid (w1.heap[w.heap.size]? = some (.cells #[.int .i64 kk, .string p, .string d, .int .i64 v, .int .i64 f] 63 (0, 0))) := kept_block hb1 (heap_alloc2_old _ _ _)
  have HZ1 : Hid (w1.heap[w.heap.size + 1]? = some (.cells #[.string ⟨#[]⟩, .string ⟨#[]⟩, .int .i64 0, .int .i64 0, .int .i64 0, .int .i64 0, .slice none 0 0] 87 (0, 0))) := kept_block hb1 (heap_alloc2_new _ _ _)
  have HR1 : Hid _ := HR0.out.below hb1
  have HG1 : Hid _ := HG.out.below HB1.out
  obtain ⟨o0, o1, o2, o3, o4⟩ := cells_5 HO1.out
  have n1 : w1.cell? ⟨0, kk * 6, none⟩ = some (.bool false) := by
    have h9 := HG1.out.need kk 0 false (by
      rcases (show kk = 2 ∨ kk = 3 ∨ kk = 4 ∨ kk = 5 ∨ kk = 6 ∨ kk = 7 by omega) with rfl | rfl | rfl | rfl | rfl | rfl <;> rfl)
    rw [Nat.add_zero, Nat.mul_comm] at h9
    exact h9
  have hk8 : (kk : Int) < 8 := by omega
  clear hb1
  go_upto_region 6 with fail
  have HSS : Hid (∀ W, Below w1.heap.size w1 W → W.cell? ⟨rb, 2, none⟩ = some (.map (some mb)) ∧ W.cell? ⟨w.heap.size, 1, none⟩ = some (.string p) ∧ (Instr.lookup 47 (.map (some mb)) (.string p) true).run Tryz.prog W = .ok (.tuple #[fuV np nd nv nm nc no nk, .bool true]) W) := fun W hb => ⟨(cells_4 (HR1.out.below hb).box).2.2.1, (cells_5 (kept_block hb HO1.out)).2.1, HLK.out W (trans2 HB1.out hb)⟩
  have hrl1 := HR1.out.lt.1
  have hol1 := (Array.getElem?_eq_some_iff.1 HO1.out).1
  have hzl1 := (Array.getElem?_eq_some_iff.1 HZ1.out).1
  clear o0 o1 o2 o3 o4 n1
  go_cut [7, 8] from 10 (fun s7 s8 wc => s7 = .pointer (some ⟨w1.heap.size, 0, none⟩) ∧ s8 = .bool true ∧ Hid (Below w1.heap.size w1 wc) ∧ Hid (wc.heap[w1.heap.size]? = some (.cells #[.string np, .string nd, .int .i64 nv, .int .i64 nm, .int .i64 nc, .int .i64 no, .int .i64 nk] 45 (0, 0))))
  case first =>
    go_region_held3 (fun w' => w'.cell? ⟨rb, 2, none⟩ = some (.map (some mb)) ∧ w'.cell? ⟨w.heap.size, 1, none⟩ = some (.string p) ∧ (Instr.lookup 47 (.map (some mb)) (.string p) true).run Tryz.prog w' = .ok (.tuple #[fuV np nd nv nm nc no nk, .bool true]) w') (first
        | exact HSS.out _ (below_drew (Below.refl _ _))
        | exact HSS.out _ ((below_drew (Below.refl _ _)).alloc (by simp) _)
        | exact HSS.out _ (fillB_7 ((below_drew (Below.refl _ _)).alloc (by simp) _) (by simp))) (fail)
    all_goals (
      go_wp2_with fail
      go_meet
      case rel => first | exact ⟨rfl, rfl, below_drew ((Below.refl _ _).alloc (Nat.le_refl _) _), heap_alloc_new _ _⟩ | exact ⟨rfl, rfl, fillB_7 ((below_drew (Below.refl _ _)).alloc (by simp) _) (by simp), fill_7 (heap_alloc_new _ _)⟩)
  case rest =>
  obtain ⟨rfl, rfl, HBc, HFc⟩ := hcut
  obtain ⟨nb, hnb⟩ : ∃ nb, w1.heap.size = nb := ⟨_, rfl⟩
  have HB2 : Hid (Below w.heap.size w wc) := trans2 HB1.out HBc.out
  have HO2 : Hid _ := kept_block HBc.out HO1.out
  have HZ2 : Hid _ := kept_block HBc.out HZ1.out
  have HR2 : Hid _ := HR1.out.below HBc.out
  have HG2 : Hid _ := HG1.out.below HBc.out
  have hnbo : w.heap.size + 1 < nb := by omega
  have hnbr : rb < nb := by omega
  rw [hnb] at HFc ⊢
  clear hnb HSS HLK
  obtain rfl : kk = 2 := by have := HKE.out; omega
  obtain ⟨o0, o1, o2, o3, o4⟩ := cells_5 HO2.out
  obtain ⟨a0, a1, a2, a3, a4, a5, a6⟩ := cells_7 HFc.out
  go_wp2_with fail
  refine (HF.out _ HB2.out).mono ?_
  rintro e w3 ⟨rfl, hb3⟩
  have HB3 : Hid (Below w.heap.size w w3) := trans2 HB2.out hb3
  have HO3 : Hid _ := kept_block hb3 HO2.out
  have HZ3 : Hid _ := kept_block hb3 HZ2.out
  have HF3 : Hid _ := kept_block hb3 HFc.out
  have HR3 : Hid _ := HR2.out.below hb3
  clear hb3 o0 o1 o2 o3 o4 a0 a1 a2 a3 a4 a5 a6
  obtain ⟨o0, o1, o2, o3, o4⟩ := cells_5 HO3.out
  obtain ⟨a0, a1, a2, a3, a4, a5, a6⟩ := cells_7 HF3.out
  go_wp2_with fail
  refine (HK.out _ HB3.out).mono ?_
  rintro e w4 ⟨ka, kn, kc, rfl, hE⟩
  have HE : Hid _ := hE
  have hrb := HR.out.lt
  have HZ4 : Hid _ := hE.box (w := w) HR3.out HZ3.out (by decide) (by omega) (by omega)
  clear hE o0 o1 o2 o3 o4 a0 a1 a2 a3 a4 a5 a6
  obtain ⟨b0, b1, b2, b3, b4, b5, b6⟩ := cells_7 HZ4.out
  have hfz := free_7 HZ4.out
  go_wp2_with fail
  exact bodyPost_ret (results_cell_tmp rfl _ _ (w.heap.size + 1) 87 _ (0, 0) _ (.int .i64 0) rfl rfl (fill_7 HZ4.out) Tryz.underlying87 rfl (by kernel_rfl)) rfl ⟨ka, kn, kc, rfl, HE.out.fin HB3.out HZ4.out (by omega) hrb.1 hrb.2⟩
set_option maxHeartbeats 16000000 in
set_option maxRecDepth 100000 in
theorem play_drop {k : Int} (hk2 : 2 ≤ k) (hk7 : k ≤ 7) (base rb mb n : Nat) (D : DataW Value) (s st : Int) (chV : Value) (cn : Nat) (cs : List Value) (p d : ByteArray) (v f : Int) (w : World) (hg : GroundT w) (hR : ReqAt w base rb mb n D s st chV cn cs) (hp : p.size ≤ 1000) (hk : k = 3) (np nd : ByteArray) (nv nm nc no nk : Int)  (hl : look D p = fuV np nd nv nm nc no nk) (hh : Maps.has D (ky p) = true)
    (hF : ∀ W, Below w.heap.size w W → Calls Tryz.prog 63 #[.pointer (some ⟨rb, 0, none⟩), opV k p d v f, fuV np nd nv nm nc no nk] W fun e w' => e = .returned (.int .i64 0) ∧ Below W.heap.size W w')
    (hM : ∀ W, GroundT W → W.cell? ⟨rb, 0, none⟩ = some (.int .i64 s) → rb < W.heap.size → Calls Tryz.prog 61 #[.pointer (some ⟨rb, 0, none⟩), opV k p d v f] W fun e w' => e = .returned (.int .i64 0) ∧ Below W.heap.size W w') (M : Int × List Nd × ResT × List ChT) (hM0 : M.1 = 0)
    (hK : ∀ W, Below w.heap.size w W → Calls Tryz.prog 39 #[.pointer (some ⟨rb, 0, none⟩), fuV np nd nv nm nc no nk] W fun e w' => ∃ ka kn kc, e = .returned (ReqE.V M.2.2.1 ka kn kc) ∧ ReqE W base rb mb n s st chV cn cs M.2.2.1 M.2.1 M.2.2.2 ka kn kc w') :
    Calls Tryz.prog 37 #[.pointer (some ⟨rb, 0, none⟩), opV k p d v f] w (PlayEnd w base rb mb n s st chV cn cs M) := by
  have HF : Hid _ := hF
  have HK : Hid _ := hK
  obtain ⟨mc, MT, ⟨mp, md, mv, mm, mmc, mo, mkids⟩, Mch⟩ := M
  obtain rfl : mc = 0 := hM0
  clear hF hK
  have HKE : Hid (k = 3) := hk
  clear hk
  have HM : Hid _ := hM
  have HR : Hid _ := hR
  have HG : Hid _ := hg
  have HLK : Hid (∀ W, Below w.heap.size w W → (Instr.lookup 47 (.map (some mb)) (.string p) true).run Tryz.prog W = .ok (.tuple #[fuV np nd nv nm nc no nk, .bool true]) W) := fun W hb => by
    have := look_run (hR.below hb).map hp
    rw [hl, hh] at this
    exact this
  obtain ⟨kk, hkk⟩ : ∃ kk : Nat, k = kk ∧ 2 ≤ kk ∧ kk ≤ 7 := ⟨k.toNat, by omega, by omega, by omega⟩
  obtain ⟨rfl, hkk2, hkk7⟩ := hkk
  clear hR hg hM hl hh hk2 hk7
  go_enter Tryz.func37, Tryz.ntmps37
  have HW0 : Hid (Below w.heap.size w ((w.alloc (.cells #[.int .i64 kk, .string p, .string d, .int .i64 v, .int .i64 f] 63)).alloc (.cells #[.string ⟨#[]⟩, .string ⟨#[]⟩, .int .i64 0, .int .i64 0, .int .i64 0, .int .i64 0, .slice none 0 0] 87))) := ((Below.refl _ _).alloc (Nat.le_refl _) _).alloc (by simp) _
  have HR0 : Hid _ := HR.out.below HW0.out
  go_wp2_with fail
  refine (HM.out _ (HG.out.below HW0.out) (cells_4 HR0.out.box).1 HR0.out.lt.1).mono ?_
  rintro e w1 ⟨rfl, hb1⟩
  have HB1 : Hid (Below w.heap.size w w1) := trans2 HW0.out hb1
  have HO1 : Hid (w1.heap[w.heap.size]? = some (.cells #[.int .i64 kk, .string p, .string d, .int .i64 v, .int .i64 f] 63 (0, 0))) := kept_block hb1 (heap_alloc2_old _ _ _)
  have HZ1 : Hid (w1.heap[w.heap.size + 1]? = some (.cells #[.string ⟨#[]⟩, .string ⟨#[]⟩, .int .i64 0, .int .i64 0, .int .i64 0, .int .i64 0, .slice none 0 0] 87 (0, 0))) := kept_block hb1 (heap_alloc2_new _ _ _)
  have HR1 : Hid _ := HR0.out.below hb1
  have HG1 : Hid _ := HG.out.below HB1.out
  obtain ⟨o0, o1, o2, o3, o4⟩ := cells_5 HO1.out
  have n1 : w1.cell? ⟨0, kk * 6, none⟩ = some (.bool false) := by
    have h9 := HG1.out.need kk 0 false (by
      rcases (show kk = 2 ∨ kk = 3 ∨ kk = 4 ∨ kk = 5 ∨ kk = 6 ∨ kk = 7 by omega) with rfl | rfl | rfl | rfl | rfl | rfl <;> rfl)
    rw [Nat.add_zero, Nat.mul_comm] at h9
    exact h9
  have hk8 : (kk : Int) < 8 := by omega
  clear hb1
  go_upto_region 6 with fail
  have HSS : Hid (∀ W, Below w1.heap.size w1 W → W.cell? ⟨rb, 2, none⟩ = some (.map (some mb)) ∧ W.cell? ⟨w.heap.size, 1, none⟩ = some (.string p) ∧ (Instr.lookup 47 (.map (some mb)) (.string p) true).run Tryz.prog W = .ok (.tuple #[fuV np nd nv nm nc no nk, .bool true]) W) := fun W hb => ⟨(cells_4 (HR1.out.below hb).box).2.2.1, (cells_5 (kept_block hb HO1.out)).2.1, HLK.out W (trans2 HB1.out hb)⟩
  have hrl1 := HR1.out.lt.1
  have hol1 := (Array.getElem?_eq_some_iff.1 HO1.out).1
  have hzl1 := (Array.getElem?_eq_some_iff.1 HZ1.out).1
  clear o0 o1 o2 o3 o4 n1
  go_cut [7, 8] from 10 (fun s7 s8 wc => s7 = .pointer (some ⟨w1.heap.size, 0, none⟩) ∧ s8 = .bool true ∧ Hid (Below w1.heap.size w1 wc) ∧ Hid (wc.heap[w1.heap.size]? = some (.cells #[.string np, .string nd, .int .i64 nv, .int .i64 nm, .int .i64 nc, .int .i64 no, .int .i64 nk] 45 (0, 0))))
  case first =>
    go_region_held3 (fun w' => w'.cell? ⟨rb, 2, none⟩ = some (.map (some mb)) ∧ w'.cell? ⟨w.heap.size, 1, none⟩ = some (.string p) ∧ (Instr.lookup 47 (.map (some mb)) (.string p) true).run Tryz.prog w' = .ok (.tuple #[fuV np nd nv nm nc no nk, .bool true]) w') (first
        | exact HSS.out _ (below_drew (Below.refl _ _))
        | exact HSS.out _ ((below_drew (Below.refl _ _)).alloc (by simp) _)
        | exact HSS.out _ (fillB_7 ((below_drew (Below.refl _ _)).alloc (by simp) _) (by simp))) (fail)
    all_goals (
      go_wp2_with fail
      go_meet
      case rel => first | exact ⟨rfl, rfl, below_drew ((Below.refl _ _).alloc (Nat.le_refl _) _), heap_alloc_new _ _⟩ | exact ⟨rfl, rfl, fillB_7 ((below_drew (Below.refl _ _)).alloc (by simp) _) (by simp), fill_7 (heap_alloc_new _ _)⟩)
  case rest =>
  obtain ⟨rfl, rfl, HBc, HFc⟩ := hcut
  obtain ⟨nb, hnb⟩ : ∃ nb, w1.heap.size = nb := ⟨_, rfl⟩
  have HB2 : Hid (Below w.heap.size w wc) := trans2 HB1.out HBc.out
  have HO2 : Hid _ := kept_block HBc.out HO1.out
  have HZ2 : Hid _ := kept_block HBc.out HZ1.out
  have HR2 : Hid _ := HR1.out.below HBc.out
  have HG2 : Hid _ := HG1.out.below HBc.out
  have hnbo : w.heap.size + 1 < nb := by omega
  have hnbr : rb < nb := by omega
  rw [hnb] at HFc ⊢
  clear hnb HSS HLK
  obtain rfl : kk = 3 := by have := HKE.out; omega
  obtain ⟨o0, o1, o2, o3, o4⟩ := cells_5 HO2.out
  obtain ⟨a0, a1, a2, a3, a4, a5, a6⟩ := cells_7 HFc.out
  go_wp2_with fail
  refine (HF.out _ HB2.out).mono ?_
  rintro e w3 ⟨rfl, hb3⟩
  have HB3 : Hid (Below w.heap.size w w3) := trans2 HB2.out hb3
  have HO3 : Hid _ := kept_block hb3 HO2.out
  have HZ3 : Hid _ := kept_block hb3 HZ2.out
  have HF3 : Hid _ := kept_block hb3 HFc.out
  have HR3 : Hid _ := HR2.out.below hb3
  clear hb3 o0 o1 o2 o3 o4 a0 a1 a2 a3 a4 a5 a6
  obtain ⟨o0, o1, o2, o3, o4⟩ := cells_5 HO3.out
  obtain ⟨a0, a1, a2, a3, a4, a5, a6⟩ := cells_7 HF3.out
  go_wp2_with fail
  refine (HK.out _ HB3.out).mono ?_
  rintro e w4 ⟨ka, kn, kc, rfl, hE⟩
  have HE : Hid _ := hE
  have hrb := HR.out.lt
  have HZ4 : Hid _ := hE.box (w := w) HR3.out HZ3.out (by decide) (by omega) (by omega)
  clear hE o0 o1 o2 o3 o4 a0 a1 a2 a3 a4 a5 a6
  obtain ⟨b0, b1, b2, b3, b4, b5, b6⟩ := cells_7 HZ4.out
  have hfz := free_7 HZ4.out
  go_wp2_with fail
  exact bodyPost_ret (results_cell_tmp rfl _ _ (w.heap.size + 1) 87 _ (0, 0) _ (.int .i64 0) rfl rfl (fill_7 HZ4.out) Tryz.underlying87 rfl (by kernel_rfl)) rfl ⟨ka, kn, kc, rfl, HE.out.fin HB3.out HZ4.out (by omega) hrb.1 hrb.2⟩
set_option maxHeartbeats 16000000 in
set_option maxRecDepth 100000 in
theorem play_read {k : Int} (hk2 : 2 ≤ k) (hk7 : k ≤ 7) (base rb mb n : Nat) (D : DataW Value) (s st : Int) (chV : Value) (cn : Nat) (cs : List Value) (p d : ByteArray) (v f : Int) (w : World) (hg : GroundT w) (hR : ReqAt w base rb mb n D s st chV cn cs) (hp : p.size ≤ 1000) (hk4 : 4 ≤ k) (np nd : ByteArray) (nv nm nc no nk : Int)  (hl : look D p = fuV np nd nv nm nc no nk) (hh : Maps.has D (ky p) = true)
    (hF : ∀ W, Below w.heap.size w W → Calls Tryz.prog 63 #[.pointer (some ⟨rb, 0, none⟩), opV k p d v f, fuV np nd nv nm nc no nk] W fun e w' => e = .returned (.int .i64 0) ∧ Below W.heap.size W w')
    (hM : ∀ W, GroundT W → W.cell? ⟨rb, 0, none⟩ = some (.int .i64 s) → rb < W.heap.size → Calls Tryz.prog 61 #[.pointer (some ⟨rb, 0, none⟩), opV k p d v f] W fun e w' => e = .returned (.int .i64 0) ∧ Below W.heap.size W w') (M : Int × List Nd × ResT × List ChT) (hM0 : M.1 = 0)
    (hK : ∀ W, Below w.heap.size w W → Calls Tryz.prog 65 #[.pointer (some ⟨rb, 0, none⟩), .int .i64 k, fuV np nd nv nm nc no nk] W fun e w' => ∃ ka kn kc, e = .returned (ReqE.V M.2.2.1 ka kn kc) ∧ ReqE W base rb mb n s st chV cn cs M.2.2.1 M.2.1 M.2.2.2 ka kn kc w') :
    Calls Tryz.prog 37 #[.pointer (some ⟨rb, 0, none⟩), opV k p d v f] w (PlayEnd w base rb mb n s st chV cn cs M) := by
  have HF : Hid _ := hF
  have HK : Hid _ := hK
  obtain ⟨mc, MT, ⟨mp, md, mv, mm, mmc, mo, mkids⟩, Mch⟩ := M
  obtain rfl : mc = 0 := hM0
  clear hF hK
  have HKE : Hid (4 ≤ k) := hk4
  clear hk4
  have HM : Hid _ := hM
  have HR : Hid _ := hR
  have HG : Hid _ := hg
  have HLK : Hid (∀ W, Below w.heap.size w W → (Instr.lookup 47 (.map (some mb)) (.string p) true).run Tryz.prog W = .ok (.tuple #[fuV np nd nv nm nc no nk, .bool true]) W) := fun W hb => by
    have := look_run (hR.below hb).map hp
    rw [hl, hh] at this
    exact this
  obtain ⟨kk, hkk⟩ : ∃ kk : Nat, k = kk ∧ 2 ≤ kk ∧ kk ≤ 7 := ⟨k.toNat, by omega, by omega, by omega⟩
  obtain ⟨rfl, hkk2, hkk7⟩ := hkk
  clear hR hg hM hl hh hk2 hk7
  go_enter Tryz.func37, Tryz.ntmps37
  have HW0 : Hid (Below w.heap.size w ((w.alloc (.cells #[.int .i64 kk, .string p, .string d, .int .i64 v, .int .i64 f] 63)).alloc (.cells #[.string ⟨#[]⟩, .string ⟨#[]⟩, .int .i64 0, .int .i64 0, .int .i64 0, .int .i64 0, .slice none 0 0] 87))) := ((Below.refl _ _).alloc (Nat.le_refl _) _).alloc (by simp) _
  have HR0 : Hid _ := HR.out.below HW0.out
  go_wp2_with fail
  refine (HM.out _ (HG.out.below HW0.out) (cells_4 HR0.out.box).1 HR0.out.lt.1).mono ?_
  rintro e w1 ⟨rfl, hb1⟩
  have HB1 : Hid (Below w.heap.size w w1) := trans2 HW0.out hb1
  have HO1 : Hid (w1.heap[w.heap.size]? = some (.cells #[.int .i64 kk, .string p, .string d, .int .i64 v, .int .i64 f] 63 (0, 0))) := kept_block hb1 (heap_alloc2_old _ _ _)
  have HZ1 : Hid (w1.heap[w.heap.size + 1]? = some (.cells #[.string ⟨#[]⟩, .string ⟨#[]⟩, .int .i64 0, .int .i64 0, .int .i64 0, .int .i64 0, .slice none 0 0] 87 (0, 0))) := kept_block hb1 (heap_alloc2_new _ _ _)
  have HR1 : Hid _ := HR0.out.below hb1
  have HG1 : Hid _ := HG.out.below HB1.out
  obtain ⟨o0, o1, o2, o3, o4⟩ := cells_5 HO1.out
  have n1 : w1.cell? ⟨0, kk * 6, none⟩ = some (.bool false) := by
    have h9 := HG1.out.need kk 0 false (by
      rcases (show kk = 2 ∨ kk = 3 ∨ kk = 4 ∨ kk = 5 ∨ kk = 6 ∨ kk = 7 by omega) with rfl | rfl | rfl | rfl | rfl | rfl <;> rfl)
    rw [Nat.add_zero, Nat.mul_comm] at h9
    exact h9
  have hk8 : (kk : Int) < 8 := by omega
  clear hb1
  go_upto_region 6 with fail
  have HSS : Hid (∀ W, Below w1.heap.size w1 W → W.cell? ⟨rb, 2, none⟩ = some (.map (some mb)) ∧ W.cell? ⟨w.heap.size, 1, none⟩ = some (.string p) ∧ (Instr.lookup 47 (.map (some mb)) (.string p) true).run Tryz.prog W = .ok (.tuple #[fuV np nd nv nm nc no nk, .bool true]) W) := fun W hb => ⟨(cells_4 (HR1.out.below hb).box).2.2.1, (cells_5 (kept_block hb HO1.out)).2.1, HLK.out W (trans2 HB1.out hb)⟩
  have hrl1 := HR1.out.lt.1
  have hol1 := (Array.getElem?_eq_some_iff.1 HO1.out).1
  have hzl1 := (Array.getElem?_eq_some_iff.1 HZ1.out).1
  clear o0 o1 o2 o3 o4 n1
  go_cut [7, 8] from 10 (fun s7 s8 wc => s7 = .pointer (some ⟨w1.heap.size, 0, none⟩) ∧ s8 = .bool true ∧ Hid (Below w1.heap.size w1 wc) ∧ Hid (wc.heap[w1.heap.size]? = some (.cells #[.string np, .string nd, .int .i64 nv, .int .i64 nm, .int .i64 nc, .int .i64 no, .int .i64 nk] 45 (0, 0))))
  case first =>
    go_region_held3 (fun w' => w'.cell? ⟨rb, 2, none⟩ = some (.map (some mb)) ∧ w'.cell? ⟨w.heap.size, 1, none⟩ = some (.string p) ∧ (Instr.lookup 47 (.map (some mb)) (.string p) true).run Tryz.prog w' = .ok (.tuple #[fuV np nd nv nm nc no nk, .bool true]) w') (first
        | exact HSS.out _ (below_drew (Below.refl _ _))
        | exact HSS.out _ ((below_drew (Below.refl _ _)).alloc (by simp) _)
        | exact HSS.out _ (fillB_7 ((below_drew (Below.refl _ _)).alloc (by simp) _) (by simp))) (fail)
    all_goals (
      go_wp2_with fail
      go_meet
      case rel => first | exact ⟨rfl, rfl, below_drew ((Below.refl _ _).alloc (Nat.le_refl _) _), heap_alloc_new _ _⟩ | exact ⟨rfl, rfl, fillB_7 ((below_drew (Below.refl _ _)).alloc (by simp) _) (by simp), fill_7 (heap_alloc_new _ _)⟩)
  case rest =>
  obtain ⟨rfl, rfl, HBc, HFc⟩ := hcut
  obtain ⟨nb, hnb⟩ : ∃ nb, w1.heap.size = nb := ⟨_, rfl⟩
  have HB2 : Hid (Below w.heap.size w wc) := trans2 HB1.out HBc.out
  have HO2 : Hid _ := kept_block HBc.out HO1.out
  have HZ2 : Hid _ := kept_block HBc.out HZ1.out
  have HR2 : Hid _ := HR1.out.below HBc.out
  have HG2 : Hid _ := HG1.out.below HBc.out
  have hnbo : w.heap.size + 1 < nb := by omega
  have hnbr : rb < nb := by omega
  rw [hnb] at HFc ⊢
  clear hnb HSS HLK
  have hk4 : 4 ≤ kk := by have := HKE.out; omega
  have e2 : ((kk : Int) == 2) = false := by simp; omega
  have e3 : ((kk : Int) == 3) = false := by simp; omega
  obtain ⟨o0, o1, o2, o3, o4⟩ := cells_5 HO2.out
  obtain ⟨a0, a1, a2, a3, a4, a5, a6⟩ := cells_7 HFc.out
  go_wp2_with fail
  refine (HF.out _ HB2.out).mono ?_
  rintro e w3 ⟨rfl, hb3⟩
  have HB3 : Hid (Below w.heap.size w w3) := trans2 HB2.out hb3
  have HO3 : Hid _ := kept_block hb3 HO2.out
  have HZ3 : Hid _ := kept_block hb3 HZ2.out
  have HF3 : Hid _ := kept_block hb3 HFc.out
  have HR3 : Hid _ := HR2.out.below hb3
  clear hb3 o0 o1 o2 o3 o4 a0 a1 a2 a3 a4 a5 a6
  obtain ⟨o0, o1, o2, o3, o4⟩ := cells_5 HO3.out
  obtain ⟨a0, a1, a2, a3, a4, a5, a6⟩ := cells_7 HF3.out
  go_wp2_with fail
  refine (HK.out _ HB3.out).mono ?_
  rintro e w4 ⟨ka, kn, kc, rfl, hE⟩
  have HE : Hid _ := hE
  have hrb := HR.out.lt
  have HZ4 : Hid _ := hE.box (w := w) HR3.out HZ3.out (by decide) (by omega) (by omega)
  clear hE o0 o1 o2 o3 o4 a0 a1 a2 a3 a4 a5 a6
  obtain ⟨b0, b1, b2, b3, b4, b5, b6⟩ := cells_7 HZ4.out
  have hfz := free_7 HZ4.out
  go_wp2_with fail
  exact bodyPost_ret (results_cell_tmp rfl _ _ (w.heap.size + 1) 87 _ (0, 0) _ (.int .i64 0) rfl rfl (fill_7 HZ4.out) Tryz.underlying87 rfl (by kernel_rfl)) rfl ⟨ka, kn, kc, rfl, HE.out.fin HB3.out HZ4.out (by omega) hrb.1 hrb.2⟩
end Go.Proofs.YthelfbdkbldhjaaGreatDoor
