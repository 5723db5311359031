/-
  tree: play, one op of a request.
-/
import Derived.Test.YtliafokjdngejaaGreatDoorTMake
namespace Go.Proofs.YtliafokjdngejaaGreatDoor
open Go.RowKit Go.Maps
set_option linter.unusedVariables false
set_option linter.unusedSimpArgs false

set_option maxHeartbeats 16000000 in
set_option maxRecDepth 100000 in
/-- An op that is refused whatever nodes there are. -/
theorem play_mal {k : Int} (h1 : 1 ≤ k) (h7 : k ≤ 7) (base rb mb n : Nat) (D : DataW Value) (s st : Int) (chV : Value) (cn : Nat) (cs : List Value) (p d : ByteArray) (v f : Int) (hf : k = 1 → 0 ≤ f ∧ f ≤ 3) (w : World) (hg : GroundT w) (hR : ReqAt w base rb mb n D s st chV cn cs) (c : Int) (hc : malC s k p d f = c) (hc0 : c ≠ 0) :
    Calls Tryz.prog 29 #[.pointer (some ⟨rb, 0, none⟩), opV k p d v f] w fun e w' => e = .returned (.tuple #[.agg #[.string ⟨#[]⟩, .string ⟨#[]⟩, .int .i64 0, .int .i64 0, .int .i64 0, .int .i64 0, .slice none 0 0], .int .i64 c]) ∧ Below w.heap.size w w' := by
  have HM : Hid (∀ W, GroundT W → W.cell? ⟨rb, 0, none⟩ = some (.int .i64 s) → rb < W.heap.size → Calls Tryz.prog 51 #[.pointer (some ⟨rb, 0, none⟩), opV k p d v f] W fun e w' => e = .returned (.int .i64 c) ∧ Below W.heap.size W w') := fun W hW hr hl => by rw [← hc]; exact mal_any h1 h7 rb s p d v f hf W hW hr hl
  have HR : Hid _ := hR
  have HG : Hid _ := hg
  have HC : Hid _ := hc
  have hcb : (c == 0) = false := by simp [hc0]
  clear hR hg hf h1 h7 hc
  go_enter Tryz.func29, Tryz.ntmps29
  have HW0 : Hid (Below w.heap.size w ((w.alloc (.cells #[.int .i64 k, .string p, .string d, .int .i64 v, .int .i64 f] 33)).alloc (.cells #[.string ⟨#[]⟩, .string ⟨#[]⟩, .int .i64 0, .int .i64 0, .int .i64 0, .int .i64 0, .slice none 0 0] 40))) := ((Below.refl _ _).alloc (Nat.le_refl _) _).alloc (by simp) _
  have HR0 : Hid _ := HR.out.below HW0.out
  go_wp2_with fail
  refine (HM.out _ (HG.out.below HW0.out) (cells_4 HR0.out.box).1 HR0.out.lt.1).mono ?_
  rintro e w1 ⟨rfl, hb1⟩
  have HB1 : Hid (Below w.heap.size w w1) := trans2 HW0.out hb1
  have HZ1 : Hid (w1.heap[w.heap.size + 1]? = some (.cells #[.string ⟨#[]⟩, .string ⟨#[]⟩, .int .i64 0, .int .i64 0, .int .i64 0, .int .i64 0, .slice none 0 0] 40 (0, 0))) := kept_block hb1 (heap_alloc2_new _ _ _)
  obtain ⟨b0, b1, b2, b3, b4, b5, b6⟩ := cells_7 HZ1.out
  have hfz := free_7 HZ1.out
  clear hb1
  go_wp2
  exact bodyPost_ret (results_cell_tmp rfl _ _ (w.heap.size + 1) 40 _ (0, 0) _ (.int .i64 c) rfl rfl (fill_7 HZ1.out) Tryz.underlying40 rfl (by kernel_rfl)) rfl ⟨rfl, fillB_7 HB1.out (by omega)⟩

set_option maxHeartbeats 16000000 in
set_option maxRecDepth 100000 in
/-- A plain node is made. -/
theorem play_make (base rb mb n : Nat) (D : DataW Value) (s st : Int) (chV : Value) (cn : Nat) (cs : List Value) (p d : ByteArray) (v : Int) (pp pd : ByteArray) (pv pm pc pk : Int) (zp zd : ByteArray) (zv zm zc zo zk : Int) (w : World) (hg : GroundT w)
    (hR : ReqAt w base rb mb n D s st chV cn cs) (hmal : malC s 1 p d 0 = 0) (hpl : look D (parB p) = fuV pp pd pv pm pc 0 pk) (hph : Maps.has D (ky (parB p)) = true) (hnl : look D p = fuV zp zd zv zm zc zo zk) (hnh : Maps.has D (ky p) = false) (hfull : Maps.size D < 64)
    (h1 : p.size ≤ 1000) (h2 : d.size ≤ 1000) (h3 : pp.size ≤ 1000) (h4 : pd.size ≤ 1000) (h5 : (parB p).size ≤ 1000) (hn : n ≤ 10000) (hcn : cn ≤ 1000) :
    Calls Tryz.prog 29 #[.pointer (some ⟨rb, 0, none⟩), opV 1 p d v 0] w fun e w' => e = .returned (.tuple #[.agg #[.string p, .string ⟨#[]⟩, .int .i64 0, .int .i64 st, .int .i64 st, .int .i64 0, .slice none 0 0], .int .i64 0]) ∧
      ∃ chV', ReqAt w' base rb mb (n + 1 + 1) ((D.put (ky pp) (.held (fuV pp pd pv pm pc 0 pk))).put (ky p) (.held (fuV p d 0 st st 0 0))) s st chV' (cn + 1) (cs ++ [.int .i64 1, .string p, .string d, .int .i64 0]) ∧ (chV'.ownBlock = chV.ownBlock ∨ ∃ g, chV'.ownBlock = some g ∧ w.heap.size ≤ g) ∧ Chg w w' (fun k => k = rb ∨ k = mb ∨ chV.ownBlock = some k) := by
  have HM : Hid (∀ W, GroundT W → W.cell? ⟨rb, 0, none⟩ = some (.int .i64 s) → rb < W.heap.size → Calls Tryz.prog 51 #[.pointer (some ⟨rb, 0, none⟩), opV 1 p d v 0] W fun e w' => e = .returned (.int .i64 0) ∧ Below W.heap.size W w') := fun W hW hr hl => by have h := mal_1_0 rb s p d v W hW hr hl; rw [hmal] at h; exact h
  have HK : Hid (∀ W, GroundT W → ReqAt W base rb mb n D s st chV cn cs → Calls Tryz.prog 52 #[.pointer (some ⟨rb, 0, none⟩), opV 1 p d v 0] W fun e w' => e = .returned (.tuple #[.agg #[.string p, .string ⟨#[]⟩, .int .i64 0, .int .i64 st, .int .i64 st, .int .i64 0, .slice none 0 0], .int .i64 0]) ∧ ∃ chV', ReqAt w' base rb mb (n + 1 + 1) ((D.put (ky pp) (.held (fuV pp pd pv pm pc 0 pk))).put (ky p) (.held (fuV p d 0 st st 0 0))) s st chV' (cn + 1) (cs ++ [.int .i64 1, .string p, .string d, .int .i64 0]) ∧ (chV'.ownBlock = chV.ownBlock ∨ ∃ g, chV'.ownBlock = some g ∧ W.heap.size ≤ g) ∧ Chg W w' (fun k => k = rb ∨ k = mb ∨ chV.ownBlock = some k)) := fun W hW hRW => make_plain base rb mb n D s st chV cn cs p d v pp pd pv pm pc pk zp zd zv zm zc zo zk W hW hRW hpl hph hnl hnh hfull h1 h2 h3 h4 h5 hn hcn
  have HR : Hid _ := hR
  have HG : Hid _ := hg
  clear hR hg hmal hpl hph hnl hnh hfull h1 h2 h3 h4 h5 hn hcn
  go_enter Tryz.func29, Tryz.ntmps29
  have HW0 : Hid (Below w.heap.size w ((w.alloc (.cells #[.int .i64 1, .string p, .string d, .int .i64 v, .int .i64 0] 33)).alloc (.cells #[.string ⟨#[]⟩, .string ⟨#[]⟩, .int .i64 0, .int .i64 0, .int .i64 0, .int .i64 0, .slice none 0 0] 40))) := ((Below.refl _ _).alloc (Nat.le_refl _) _).alloc (by simp) _
  have HR0 : Hid _ := HR.out.below HW0.out
  go_wp2_with fail
  refine (HM.out _ (HG.out.below HW0.out) (cells_4 HR0.out.box).1 HR0.out.lt.1).mono ?_
  rintro e w1 ⟨rfl, hb1⟩
  have HB1 : Hid (Below w.heap.size w w1) := trans2 HW0.out hb1
  have HO1 : Hid (w1.heap[w.heap.size]? = some (.cells #[.int .i64 1, .string p, .string d, .int .i64 v, .int .i64 0] 33 (0, 0))) := kept_block hb1 (heap_alloc2_old _ _ _)
  have HZ1 : Hid (w1.heap[w.heap.size + 1]? = some (.cells #[.string ⟨#[]⟩, .string ⟨#[]⟩, .int .i64 0, .int .i64 0, .int .i64 0, .int .i64 0, .slice none 0 0] 40 (0, 0))) := kept_block hb1 (heap_alloc2_new _ _ _)
  have HR1 : Hid _ := HR0.out.below hb1
  have HG1 : Hid _ := HG.out.below HB1.out
  obtain ⟨o0, o1, o2, o3, o4⟩ := cells_5 HO1.out
  have n1 := HG1.out.need 1 0 true rfl
  simp only [Nat.reduceMul, Nat.reduceAdd] at n1
  clear hb1
  go_wp2_with fail
  refine (HK.out _ HG1.out HR1.out).mono ?_
  rintro e w2 ⟨rfl, chV', hR2, hL2, hC2⟩
  have HR2 : Hid _ := hR2
  have HC2 : Hid _ := hC2
  have HL2 : Hid _ := hL2
  have hrb := HR.out.lt
  have hs1 := HB1.out.size
  have HZ2 : Hid (w2.heap[w.heap.size + 1]? = some (.cells #[.string ⟨#[]⟩, .string ⟨#[]⟩, .int .i64 0, .int .i64 0, .int .i64 0, .int .i64 0, .slice none 0 0] 40 (0, 0))) := kept_chg hC2 HZ1.out (fun e => by
    rcases e with e | e | e
    · omega
    · omega
    · obtain ⟨cur, hcur⟩ := owns_kind HR1.out.row e
      rw [HZ1.out] at hcur
      simp at hcur)
  obtain ⟨b0, b1, b2, b3, b4, b5, b6⟩ := cells_7 HZ2.out
  have hfz := free_7 HZ2.out
  clear hR2 hL2 hC2 o0 o1 o2 o3 o4 n1
  go_wp2_with fail
  have hgb : ∀ k, chV'.ownBlock = some k → ¬ k = w.heap.size + 1 := fun k hk e => by
    obtain ⟨cur, hcur⟩ := owns_kind HR2.out.row hk
    rw [e, HZ2.out] at hcur
    simp at hcur
  refine bodyPost_ret (results_cell_tmp rfl _ _ (w.heap.size + 1) 40 _ (0, 0) _ (.int .i64 0) rfl rfl (fill_7 HZ2.out) Tryz.underlying40 rfl (by kernel_rfl)) rfl ⟨rfl, chV', HR2.out.chg putC_7 (by omega) (by omega) hgb, HL2.out.imp id (fun ⟨g, h, h'⟩ => ⟨g, h, by omega⟩), ?_⟩
  exact (((Chg.of_below HB1.out _).trans (HC2.out.mono (S' := fun k => (k = rb ∨ k = mb ∨ chV.ownBlock = some k) ∨ k = w.heap.size + 1) (fun _ _ h => .inl h))).trans (putC_7.mono (fun _ _ h => .inr h))).mono (fun k hk h => h.elim id (fun e => absurd hk (by omega)))
end Go.Proofs.YtliafokjdngejaaGreatDoor
