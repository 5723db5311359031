/-
  view: All, New.
-/
import Derived.Test.YtlbhnlpdijhmlaaVSrv3
import Derived.Test.YtlbhnlpdijhmlaaVStep
import Derived.Test.YtlbhnlpdijhmlaaRCopy
namespace Go.Proofs.Ytlbhnlpdijhmlaa
open Go.RowKit Go.MuLone
set_option linter.unusedVariables false
set_option linter.unusedSimpArgs false

theorem all_nil (w : World) : Calls Try.prog 14 #[.pointer none] w fun e w' => e = .returned (.slice none 0 0) ∧ w' = w := by
  go_enter_defers Try.func14, Try.ntmps14
  go_wp2_with (go_at_call 24; refine (isNone_nil _).mono ?_; rintro e w1 ⟨rfl, rfl⟩)
  exact ⟨_, results_tmp rfl _ _ _, rfl, rfl⟩
theorem make_views (n : Nat) (hn : n ≤ 1000000) : ∃ M : List Value, M.length = n * 3 ∧ ∀ w : World, (Instr.makeSlice 31 (.int .i64 n) (.int .i64 n)).run Try.prog w = .ok (.slice (some ⟨w.heap.size, 0, none⟩) n n) (w.alloc (.cells M.toArray 28)) := by
  obtain ⟨i0, hi, hz0, hz1, hz2⟩ := info_parts Try.info_vw
  refine ⟨(madeCells (Value.cells (.agg #[.int .i64 0, .int .i64 0, .int .i64 0])) (n * 3)).toList, ?_, fun w => ?_⟩
  · rw [Array.length_toList, size_madeCells]
  · have h := run_make (P := Try.prog) w 31 28 i0 _ Try.underlying31 hi hz0 .i64 .i64 n n (by omega) (Int.le_refl _) (by rw [hz2]; omega) (by omega)
    rw [hz1] at h
    rw [Array.toArray_toList]
    exact h
set_option maxHeartbeats 3200000 in
set_option maxRecDepth 100000 in
theorem all_box (b : Nat) (V : SvT) (v : Value) (w : World) (h : SrvAt w b 0 V v) :
    Calls Try.prog 14 #[.pointer (some ⟨b, 0, none⟩)] w fun e w' => ∃ u, e = .returned u ∧ w'.ownsRow w.heap.size 28 3 u V.l.length (V.l.flatMap vwCs) ∧ SrvAt w' b 0 V v ∧ Chg w w' (fun j => j = b) := by
  have HS : Hid (SrvAt w b 0 V v) := h
  by_cases h0 : V.nodes = 0
  · have HE : Hid (V.l = []) := (h.ok.none h0).1
    have HN : Hid (V.nodes == 0) := by show _ = true; simpa using h0
    clear h h0
    go_enter_defers Try.func14, Try.ntmps14
    go_wp2_with (go_at_call 24; refine (isNone_any b 0 V v _ HS.out).mono ?_; rintro e w1 ⟨rfl, rfl⟩; rw [HN.out])
    exact ⟨_, results_tmp rfl _ _ _, _, rfl, by rw [HE.out]; exact ⟨rfl, .inl ⟨rfl, rfl⟩⟩, HS.out, Chg.refl _ _⟩
  · have HN : Hid ((V.nodes == 0) = false) := by show _ = false; simpa using h0
    have hl := h.locked 1
    have hlen := h.ok.len
    have hv : VwsAt w (fun _ => True) v V.l := vws_row h.row (fun _ _ => trivial)
    obtain ⟨a, c, rfl, hc⟩ := RowAt.form hv
    obtain ⟨n, hn⟩ : ∃ n, V.l.length = n := ⟨_, rfl⟩
    obtain ⟨L, hL⟩ : ∃ L, V.l.flatMap vwCs = L := ⟨_, rfl⟩
    have hLn : L.length = n * 3 := by rw [← hL, flat_len (cells := vwCs) (sz := 3) (fun _ => rfl), hn]
    have HLO : Hid (∀ u ∈ L, u.oneCell' = true) := by rw [← hL]; exact vws_one V.l
    have hx := hl.box
    rw [hn] at hlen hx
    obtain ⟨W, hW⟩ : ∃ W, w.setCell ⟨b, 1, none⟩ (.int .i32 1) = W := ⟨_, rfl⟩
    have hcw : Chg w W (fun j => j = b) := by rw [← hW]; exact Chg.set _ _ _
    rw [hW] at hl hx
    have HLC : Hid (∀ {w'}, SrvAt w' b 1 V (.slice a n c) → 0 < L.length → ∃ ad, a = some ad ∧ ∀ j u, L[j]? = some u → w'.cell? (ad.add j) = some u) := fun {w'} hw' hpos => by
      have hv' : VwsAt w' (fun _ => True) (.slice a n c) V.l := vws_row hw'.row (fun _ _ => trivial)
      have hne : V.l ≠ [] := fun e => by rw [e] at hn; simp at hn; omega
      obtain ⟨g, o, rfl, _⟩ := RowAt.get hv' (lastV_at hne)
      refine ⟨_, rfl, fun j u hj => ?_⟩
      rw [addr_add]
      exact vws_cells hv' j u (by rw [hL]; exact hj)
    have HW : Hid (w.setCell ⟨b, 1, none⟩ (.int .i32 1) = W) := hW
    have HL : Hid (SrvAt W b 1 V (.slice a n c)) := by have h9 := hl; rw [hn] at h9; exact h9
    have HCW : Hid (Chg w W (fun j => j = b)) := hcw
    have hs0 : W.heap.size = w.heap.size := by rw [← hW]; simp
    have HS0 : Hid (W.heap.size = w.heap.size) := hs0
    have HNL : Hid (V.l.length = n) := hn
    have HFL : Hid (V.l.flatMap vwCs = L) := hL
    have HLN : Hid (L.length = n * 3) := hLn
    have HS' : Hid (SrvAt w b 0 V (.slice a n c)) := by have h9 := h; rw [hn] at h9; exact h9
    obtain ⟨M, hM, hmk⟩ := make_views n (by omega)
    have HM : Hid (M.length = n * 3) := hM
    have c3 := (cells_5 hx).2.2.2.1
    have c3' : (W.alloc (.cells M.toArray 28)).cell? ⟨b, 3, none⟩ = some (.slice a n c) := (cells_5 (new_old hx _)).2.2.2.1
    rw [hn, hL]
    clear h h0 hl hlen hv hc hn hL hLn hx hW hcw hs0 hM HS
    go_enter_defers Try.func14, Try.ntmps14
    go_wp2_with (first
      | (go_at_call 24; refine (isNone_any b 0 V _ _ HS'.out).mono ?_; rintro e w1 ⟨rfl, hw1⟩; subst hw1; rw [HN.out])
      | (go_at_call 25; refine (lock_free Try.muLib ⟨b, 1, none⟩ _ HS'.out.lock (HS'.out.free 1)).mono ?_; rintro e w2 ⟨rfl, hw2⟩; rw [HW.out] at hw2; subst hw2)
      | (skip
         refine wpList_copy_s rfl _ _ _ _ rfl 28 3 (by decide) Try.underlying31 (by kernel_rfl) _ _ _ _ _ _ rfl rfl w2.heap.size 0 M _ (heap_alloc_new _ _) L n (Nat.min_self n) HLN.out ?_ (by rw [HLN.out, HM.out]; omega) HLO.out ?_
         · intro hpos
           exact ⟨rfl, HLC.out (HL.out.below ((Below.refl _ _).alloc (Nat.le_refl _) _)) hpos⟩
         intro w3 hg3 hc3
         have HG3 : Hid (w3.heap[w2.heap.size]? = some (.cells (splice M 0 L).toArray 28 (0, 0))) := hg3
         have HB3 : Hid (Below w2.heap.size w2 w3) := ((Below.refl _ _).alloc (Nat.le_refl _) _).trans (hc3.below (B := w2.heap.size) (by simp) (fun k _ e => Nat.le_of_eq e.symm))
         clear hg3 hc3))
    have h4 := HL.out.below HB3.out
    refine leaves_cons (f := 26) (args := #[.pointer (some ⟨b, 1, none⟩)]) (by simp) (by simp [go_sem]) ?_
    refine (unlock_deferred Try.muLib ⟨b, 1, none⟩ .returning _ h4.lock (h4.free 1)).mono ?_
    rintro e u' w'' ⟨rfl, rfl, rfl⟩
    refine ⟨_, results_tmp rfl _ _ _, _, rfl, ?_, h4.locked 0, (HCW.out.trans (Chg.of_below HB3.out _)).trans (Chg.set _ _ _)⟩
    have h5 := HL.out.lt
    have h6 := HLN.out
    have h7 := HM.out
    have h8 := HL.out.ok.len
    rw [HNL.out] at h8
    refine ⟨h6, .inr ⟨w2.heap.size, n, L.toArray, rfl, by rw [HS0.out]; exact Nat.le_refl _, ?_, Nat.le_refl _, by unfold maxLen; omega, by simpa using h6, by simp [← h6]⟩⟩
    refine other_blk ?_ (by omega)
    rw [HG3.out]
    congr 3
    unfold splice
    simp [h6, h7]
theorem newV_ok (n : Int) (h1 : 1 ≤ n) (h2 : n ≤ 5) : (newV n).Ok := by
  unfold newV
  refine ⟨⟨by simp; omega, by simp; omega⟩, by simp, fun i t hi => ?_, fun i t u hi hu => ?_, fun e => by simp at e⟩
  · cases i with
    | zero =>
      obtain rfl : (⟨1, 1, if 1 < n then 2 else 0⟩ : VwT) = t := by simpa using hi
      by_cases h : 1 < n
      · simp [h]; omega
      · simp [h]; omega
    | succ i => simp at hi
  · simp at hu
set_option maxHeartbeats 1600000 in
theorem new_no (w : World) (n : Int) (h : n < 1 ∨ 5 < n) : Calls Try.prog 10 #[.int .i64 n] w fun e w' => e = .returned (.tuple #[.pointer none, .int .i64 1]) ∧ w' = w := by
  rcases h with h | h
  · go_enter Try.func10, Try.ntmps10
    go_wp2_with fail
    go_ret2
    exact ⟨rfl, rfl⟩
  · have h1 : ¬ n < 1 := by omega
    go_enter Try.func10, Try.ntmps10
    go_wp2_with fail
    go_ret2
    exact ⟨rfl, rfl⟩
theorem Try.zero_srv : (Try.prog.info? 70).map (fun i => (i.zero, i.size)) = some (some (.agg #[.int .i64 0, .int .i32 0, .int .u32 0, .slice none 0 0, .bool false]), 5) := by kernel_rfl
theorem new_at {w W : World} {n q : Int} {g : Nat} {s : Value} (h1 : 1 ≤ n) (h2 : n ≤ 5) (hq : q = if 1 < n then 2 else 0) (hg : g = W.heap.size) (hs : s = .slice (some ⟨g, 0, none⟩) 1 1) (hb : Below w.heap.size w W) {o : Obj} (ho : o = .cells #[.int .i64 n, .int .i32 0, .int .u32 0, s, .bool false] 70) :
    SrvAt ((W.alloc (.cells #[.int .i64 1, .int .i64 1, .int .i64 q] 28)).alloc o) (W.heap.size + 1) 0 (newV n) s ∧ Below w.heap.size w ((W.alloc (.cells #[.int .i64 1, .int .i64 1, .int .i64 q] 28)).alloc o) := by
  have hz : (W.alloc (.cells #[.int .i64 1, .int .i64 1, .int .i64 q] 28)).heap.size = W.heap.size + 1 := by simp
  refine ⟨⟨newV_ok n h1 h2, ?_, ?_, ?_⟩, (hb.alloc hb.size _).alloc (by rw [hz]; exact Nat.le_succ_of_le hb.size) _⟩
  · rw [ho]
    exact heap_new' hz
  · subst hg hs
    refine ⟨by simp [newV], .inr ⟨W.heap.size, 1, #[.int .i64 1, .int .i64 1, .int .i64 q], rfl, Nat.zero_le _, new_old (heap_alloc_new _ _) _, Nat.le_refl _, by unfold maxLen; omega, rfl, ?_⟩⟩
    subst hq
    rfl
  · subst hg hs
    intro e
    simp [Value.ownBlock] at e
set_option maxHeartbeats 1600000 in
theorem new_ok (w : World) (n : Int) (h1 : 1 ≤ n) (h2 : n ≤ 5) : Calls Try.prog 10 #[.int .i64 n] w fun e w' => ∃ b v, e = .returned (.tuple #[.pointer (some ⟨b, 0, none⟩), .int .i64 0]) ∧ SrvAt w' b 0 (newV n) v ∧ Below w.heap.size w w' ∧ w.heap.size ≤ b ∧ ∀ j, v.ownBlock = some j → w.heap.size ≤ j := by
  have a0 : ¬ n < 1 := by omega
  have a1 : ¬ 5 < n := by omega
  have H1 : Hid (1 ≤ n) := h1
  have H2 : Hid (n ≤ 5) := h2
  by_cases hn : n = 1
  · subst hn
    clear h1 h2
    go_enter Try.func10, Try.ntmps10
    go_wp2_with fail
    go_ret2
    have hz : (w.alloc (.cells #[.int .i64 1, .int .i64 1, .int .i64 0] 28)).heap.size = w.heap.size + 1 := by simp
    have h9 := new_at (w := w) (W := w.alloc (.cells #[.int .i64 1, .int .i64 1, .int .i64 0] 28)) (n := 1) (q := 0) (g := w.heap.size + 1) (s := .slice (some ⟨w.heap.size + 1, 0, none⟩) 1 1) H1.out H2.out rfl hz.symm rfl ((Below.refl _ _).alloc (Nat.le_refl _) _) rfl
    rw [hz] at h9
    exact ⟨w.heap.size + 1 + 1, rfl, _, h9.1, h9.2, by omega, fun j hj => by
      have e : w.heap.size + 1 = j := by simpa [Value.ownBlock] using hj
      omega⟩
  · have b1 : (n == 1) = false := by simpa using hn
    have HQ : Hid (1 < n) := by show 1 < n; omega
    clear h1 h2 hn
    go_enter Try.func10, Try.ntmps10
    go_wp2_with fail
    go_ret2
    have hz : (w.alloc (.cells #[.int .i64 1, .int .i64 1, .int .i64 2] 28)).heap.size = w.heap.size + 1 := by simp
    have h9 := new_at (w := w) (W := w.alloc (.cells #[.int .i64 1, .int .i64 1, .int .i64 2] 28)) (n := n) (q := 2) (g := w.heap.size + 1) (s := .slice (some ⟨w.heap.size + 1, 0, none⟩) 1 1) H1.out H2.out (by rw [if_pos HQ.out]) hz.symm rfl ((Below.refl _ _).alloc (Nat.le_refl _) _) rfl
    rw [hz] at h9
    exact ⟨w.heap.size + 1 + 1, rfl, _, h9.1, h9.2, by omega, fun j hj => by
      have e : w.heap.size + 1 = j := by simpa [Value.ownBlock] using hj
      omega⟩
end Go.Proofs.Ytlbhnlpdijhmlaa
