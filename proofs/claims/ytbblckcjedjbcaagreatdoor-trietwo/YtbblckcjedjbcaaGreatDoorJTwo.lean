import Derived.Test.YtbblckcjedjbcaaGreatDoorJPlayG
import Derived.Test.YtbblckcjedjbcaaGreatDoorJPlayH
import Derived.Test.YtbblckcjedjbcaaGreatDoorJOf
namespace Go.Proofs.YtbblckcjedjbcaaGreatDoor.J
open Go.RowKit Go.Maps
set_option linter.unusedVariables false
set_option linter.unusedSimpArgs false

/-- The watches behind an act. -/
def actL (a : AcT) (L : List On) : List On :=
  if a.K = 1 then (if addC L ⟨a.s, a.i, a.p, a.k, a.f⟩ = 0 then insO ⟨a.s, a.i, a.p, a.k, a.f⟩ L else L)
  else if a.K = 2 then delO L a.s a.i
  else if a.K = 3 then forO L a.s
  else L
theorem actL_len (a : AcT) (L : List On) : (actL a L).length ≤ L.length + 1 := by
  unfold actL
  split
  · split
    · rw [insO_len]; omega
    · omega
  · split
    · have h : (delO L a.s a.i).length ≤ L.length := List.length_filter_le _ _
      omega
    · split
      · have h : (forO L a.s).length ≤ L.length := List.length_filter_le _ _
        omega
      · omega
theorem PlG.of_below {w w' : World} {K : Nat → Prop} {X : Nat} {v : Value} (hb : Below w.heap.size w w') : PlG w w' K X K v v := ⟨Chg.of_below hb _, fun k hk => .inl hk, fun k hk => .inl hk⟩
set_option maxHeartbeats 6400000 in
set_option maxRecDepth 100000 in
theorem playG_else (K : Int) (n1 : ¬ K = 1) (n2 : ¬ K = 2) (n3 : ¬ K = 3) (n4 : ¬ K = 4) (n5 : ¬ K = 5) (n6 : ¬ K = 6) (n7 : ¬ K = 7) (B X : Nat) (s i : Int) (p : ByteArray) (k f : Int) (w : World) :
    Calls Tryz.prog 25 #[ndV B, .pointer (some ⟨X, 0, none⟩), .agg #[.int .i64 K, .int .i64 s, .int .i64 i, .string p, .int .i64 k, .int .i64 f]] w fun e w' => e = .returned (.bool true) ∧ Below w.heap.size w w' := by
  obtain ⟨w0, hw0⟩ : ∃ w0, w.alloc (.cells #[.int .i64 K, .int .i64 s, .int .i64 i, .string p, .int .i64 k, .int .i64 f] 72) = w0 := ⟨_, rfl⟩
  have HB0 : Hid (Below w.heap.size w w0) := by rw [← hw0]; exact (Below.refl _ _).alloc (Nat.le_refl _) _
  have hb0 : w0.heap[w.heap.size]? = some (.cells #[.int .i64 K, .int .i64 s, .int .i64 i, .string p, .int .i64 k, .int .i64 f] 72 (0, 0)) := by rw [← hw0]; exact heap_alloc_new _ _
  obtain ⟨a0, a1, a2, a3, a4, a5⟩ := cells_6 hb0
  clear hb0
  go_enter Tryz.func25, Tryz.ntmps25
  rw [← hw0] at a0 a1 a2 a3 a4 a5
  clear hw0
  go_wp2_with fail
  go_ret
  first | exact ⟨rfl, HB0.out⟩ | exact ⟨rfl, (Below.refl _ _).alloc (Nat.le_refl _) _⟩
theorem askG (C : Nat → Prop) (B X : Nat) (v : Value) (L : List On) (a : AcT) (w : World) (hP : Pr w C B X v L) (hlen : L.length ≤ 1000) (hwf : wfI a.s) (h4 : 4 ≤ a.K) (h7 : a.K ≤ 7) :
    Calls Tryz.prog 25 #[ndV B, .pointer (some ⟨X, 0, none⟩), a.val] w fun e w' => e = .returned (.bool true) ∧ Below w.heap.size w w' := by
  obtain ⟨K, s, i, p, k, f⟩ := a
  obtain ⟨b, c, rfl⟩ := hP.row.form
  have h : K = 4 ∨ K = 5 ∨ K = 6 ∨ K = 7 := by
    have h4' : 4 ≤ K := h4
    have h7' : K ≤ 7 := h7
    omega
  rcases h with rfl | rfl | rfl | rfl
  · exact playH_4 C B X b c _ L s i p k f w hP rfl hlen hwf
  · exact playH_5 C B X b c _ L s i p k f w hP rfl hlen hwf
  · exact playH_6 C B X b c _ L s i p k f w hP rfl hlen hwf
  · exact playH_7 C B X b c _ L s i p k f w hP rfl hlen hwf
theorem playG (C : Nat → Prop) (B X : Nat) (v : Value) (L : List On) (a : AcT) (w : World) (hP : Pr w C B X v L) (hlen : L.length ≤ 1000) (hwf : wfI a.s) :
    Calls Tryz.prog 25 #[ndV B, .pointer (some ⟨X, 0, none⟩), a.val] w fun e w' => e = .returned (.bool true) ∧ ∃ C' v', Pr w' C' B X v' (actL a L) ∧ PlG w w' C X C' v v' := by
  by_cases h1 : a.K = 1
  · obtain ⟨K, s, i, p, k, f⟩ := a
    obtain ⟨b, c, rfl⟩ := hP.row.form
    have h1' : K = 1 := h1
    subst h1'
    have e : actL ⟨1, s, i, p, k, f⟩ L = (if addC L ⟨s, i, p, k, f⟩ = 0 then insO ⟨s, i, p, k, f⟩ L else L) := if_pos rfl
    rw [e]
    exact playG_1 C B X b c _ L ⟨s, i, p, k, f⟩ w hP rfl hlen hwf
  by_cases h2 : a.K = 2
  · obtain ⟨K, s, i, p, k, f⟩ := a
    obtain ⟨b, c, rfl⟩ := hP.row.form
    have h2' : K = 2 := h2
    subst h2'
    have e : actL ⟨2, s, i, p, k, f⟩ L = delO L s i := (if_neg (show ¬ (2 : Int) = 1 by decide)).trans (if_pos rfl)
    rw [e]
    exact playG_2 C B X b c _ L ⟨s, i, p, k, f⟩ w hP rfl hlen hwf
  by_cases h3 : a.K = 3
  · obtain ⟨K, s, i, p, k, f⟩ := a
    obtain ⟨b, c, rfl⟩ := hP.row.form
    have h3' : K = 3 := h3
    subst h3'
    have e : actL ⟨3, s, i, p, k, f⟩ L = forO L s := (if_neg (show ¬ (3 : Int) = 1 by decide)).trans ((if_neg (show ¬ (3 : Int) = 2 by decide)).trans (if_pos rfl))
    rw [e]
    exact playG_3 C B X b c _ L ⟨s, i, p, k, f⟩ w hP rfl hlen hwf
  have e : actL a L = L := (if_neg h1).trans ((if_neg h2).trans (if_neg h3))
  rw [e]
  have hcl : ∀ {r : Ending} {w' : World}, (r = .returned (.bool true) ∧ Below w.heap.size w w') → (r = .returned (.bool true) ∧ ∃ C' v', Pr w' C' B X v' L ∧ PlG w w' C X C' v v') := fun h => ⟨h.1, C, v, hP.below h.2, PlG.of_below h.2⟩
  by_cases h47 : 4 ≤ a.K ∧ a.K ≤ 7
  · exact (askG C B X v L a w hP hlen hwf h47.1 h47.2).mono (fun r w' h => hcl h)
  · obtain ⟨K, s, i, p, k, f⟩ := a
    have h1' : ¬ K = 1 := h1
    have h2' : ¬ K = 2 := h2
    have h3' : ¬ K = 3 := h3
    have h47' : ¬ (4 ≤ K ∧ K ≤ 7) := h47
    exact (playG_else K h1' h2' h3' (by omega) (by omega) (by omega) (by omega) B X s i p k f w).mono (fun r w' h => hcl h)
set_option maxHeartbeats 6400000 in
set_option maxRecDepth 100000 in
theorem lookG (C : Nat → Prop) (B X : Nat) (v : Value) (L : List On) (a : AcT) (w : World) (hP : Pr w C B X v L) (hlen : L.length ≤ 1000) (hwf : wfI a.s) :
    Calls Tryz.prog 26 #[ndV B, .pointer (some ⟨X, 0, none⟩), a.val] w fun e w' => e = .returned (.bool true) ∧ Below w.heap.size w w' := by
  obtain ⟨K, s, i, p, k, f⟩ := a
  have HP0 : Hid (Pr w C B X v L) := hP
  have HWF : Hid (wfI s) := hwf
  have HLE : Hid (L.length ≤ 1000) := hlen
  obtain ⟨w0, hw0⟩ : ∃ w0, w.alloc (.cells #[.int .i64 K, .int .i64 s, .int .i64 i, .string p, .int .i64 k, .int .i64 f] 72) = w0 := ⟨_, rfl⟩
  have HB0 : Hid (Below w.heap.size w w0) := by rw [← hw0]; exact (Below.refl _ _).alloc (Nat.le_refl _) _
  have hb0 : w0.heap[w.heap.size]? = some (.cells #[.int .i64 K, .int .i64 s, .int .i64 i, .string p, .int .i64 k, .int .i64 f] 72 (0, 0)) := by rw [← hw0]; exact heap_alloc_new _ _
  have HSZ : Hid (w0.heap.size = w.heap.size + 1) := by show _ = _; rw [← hw0]; simp
  obtain ⟨w1, hw1⟩ : ∃ w1, w0.alloc (.cells #[.int .i64 4, .int .i64 0, .int .i64 i, .string p, .int .i64 k, .int .i64 f] 72) = w1 := ⟨_, rfl⟩
  have HB1 : Hid (Below w.heap.size w w1) := by rw [← hw1]; exact HB0.out.alloc HB0.out.size _
  have HA1 : Hid (w1.heap[w.heap.size]? = some (.cells #[.int .i64 K, .int .i64 s, .int .i64 i, .string p, .int .i64 k, .int .i64 f] 72 (0, 0))) := by show _ = _; rw [← hw1]; exact new_old hb0 _
  have HD1 : Hid (w1.heap[w.heap.size + 1]? = some (.cells #[.int .i64 4, .int .i64 0, .int .i64 i, .string p, .int .i64 k, .int .i64 f] 72 (0, 0))) := by show _ = _; rw [← hw1, ← HSZ.out]; exact heap_alloc_new _ _
  obtain ⟨a0, a1, a2, a3, a4, a5⟩ := cells_6 hb0
  have HW : Hid (w.alloc (.cells #[.int .i64 K, .int .i64 s, .int .i64 i, .string p, .int .i64 k, .int .i64 f] 72) = w0) := hw0
  have HW1 : Hid (w0.alloc (.cells #[.int .i64 4, .int .i64 0, .int .i64 i, .string p, .int .i64 k, .int .i64 f] 72) = w1) := hw1
  clear hb0 hw1 hP hwf hlen
  go_enter Tryz.func26, Tryz.ntmps26
  rw [← hw0] at a0 a1 a2 a3 a4 a5
  clear hw0
  go_wp2_with fail
  rw [HW.out, HW1.out]
  clear a0 a1 a2 a3 a4 a5
  go_loopw [8] (fun iv wr => ∃ q : Nat, iv = .int .i64 q ∧ 5 ≤ q ∧ q ≤ 8 ∧ Hid (Below w1.heap.size w1 wr)) (fun iv _ => 8 - (intOf iv).toNat)
  case atStart => exact ⟨5, rfl, by decide, by decide, Below.refl _ _⟩
  case round =>
    obtain ⟨q, rfl, hq5, hq8, HBr⟩ := hrel
    by_cases hlt : q < 8
    · have hlt' : (q : Int) ≤ 7 := by omega
      obtain ⟨a0, a1, a2, a3, a4, a5⟩ := cells_6 (kept_block HBr.out HA1.out)
      have HP : Hid _ := askG C B X v L ⟨q, s, 0, ⟨#[]⟩, 0, 0⟩ wr (HP0.out.below (xtrans2 HB1.out HBr.out)) HLE.out HWF.out (by show (4 : Int) ≤ (q : Int); omega) (by show (q : Int) ≤ 7; omega)
      go_wp2_with (first
        | (go_at_call 25; refine Calls.mono HP.out ?_; rintro e w2 ⟨rfl, hb2⟩
           have HB2 : Hid (Below w1.heap.size w1 w2) := xtrans2 HBr.out hb2
           clear hb2 a0 a1 a2 a3 a4 a5)
        | fail)
      go_roundw
      case rel => exact ⟨q + 1, by go_num, by omega, by omega, HB2⟩
      case measure => simp [intOf]; omega
    · have hge : ¬ (q : Int) ≤ 7 := by omega
      obtain ⟨w3, hw3⟩ : ∃ w3, wr = w3 := ⟨_, rfl⟩
      subst hw3
      have HB3 : Hid (Below w.heap.size w wr) := xtrans2 HB1.out HBr.out
      have HD3 : Hid (wr.heap[w.heap.size + 1]? = some (.cells #[.int .i64 4, .int .i64 0, .int .i64 i, .string p, .int .i64 k, .int .i64 f] 72 (0, 0))) := kept_block HBr.out HD1.out
      clear hq5 hq8 hlt HBr
      go_wp2_with fail
      go_loopw [10] (fun iv wq => ∃ (r : Nat) (kv : Int), iv = .int .i64 r ∧ 1 ≤ r ∧ r ≤ 4 ∧ Hid (Below w.heap.size w wq) ∧ Hid (wq.heap[w.heap.size + 1]? = some (.cells #[.int .i64 4, .int .i64 0, .int .i64 i, .string p, .int .i64 kv, .int .i64 f] 72 (0, 0)))) (fun iv _ => 4 - (intOf iv).toNat)
      case atStart => exact ⟨1, k, rfl, by decide, by decide, HB3, HD3⟩
      case round =>
        obtain ⟨r, kv, rfl, hq1, hq4, HBq, HDq⟩ := hrel
        by_cases hlt : r < 4
        · have hlt' : (r : Int) ≤ 3 := by omega
          obtain ⟨d0, d1, d2, d3, d4, d5⟩ := cells_6 HDq.out
          have fd := free_of HDq.out
          go_upto_region 12 with fail
          clear d0 d1 d2 d3 d4 d5 fd
          obtain ⟨w5, hw5⟩ : ∃ z, wr.setCell ⟨w.heap.size + 1, 4, none⟩ (.int .i64 r) = z := ⟨_, rfl⟩
          have HB5 : Hid (Below w.heap.size w w5) := by rw [← hw5]; exact HBq.out.setCell (Nat.le_succ _) _
          have HD5 : Hid (w5.heap[w.heap.size + 1]? = some (.cells #[.int .i64 4, .int .i64 0, .int .i64 i, .string p, .int .i64 r, .int .i64 f] 72 (0, 0))) := by show _ = _; rw [← hw5]; exact same_blk HDq.out rfl
          rw [hw5]
          clear hw5
          obtain ⟨d0, d1, d2, d3, d4, d5⟩ := cells_6 HD5.out
          have HP : Hid _ := askG C B X v L ⟨4, 0, i, p, r, f⟩ w5 (HP0.out.below HB5.out) HLE.out (show wfI 0 by unfold wfI; decide) (by show (4 : Int) ≤ 4; decide) (by show (4 : Int) ≤ 7; decide)
          go_wp2_with (first
            | (go_at_call 25; refine Calls.mono HP.out ?_; rintro e w2 ⟨rfl, hb2⟩
               have HB6 : Hid (Below w.heap.size w w2) := xtrans2 HB5.out hb2
               have HD6 : Hid (w2.heap[w.heap.size + 1]? = some (.cells #[.int .i64 4, .int .i64 0, .int .i64 i, .string p, .int .i64 r, .int .i64 f] 72 (0, 0))) := kept_block hb2 HD5.out
               clear hb2 d0 d1 d2 d3 d4 d5)
            | fail)
          go_roundw
          case rel => exact ⟨r + 1, _, by go_num, by omega, by omega, HB6, HD6⟩
          case measure => simp [intOf]; omega
        · have hge2 : ¬ (r : Int) ≤ 3 := by omega
          go_wp2_with fail
          go_ret
          exact ⟨rfl, HBq.out⟩
end Go.Proofs.YtbblckcjedjbcaaGreatDoor.J
namespace Go.Proofs.YtbblckcjedjbcaaGreatDoor.J
open Go.RowKit Go.Maps
set_option linter.unusedVariables false
set_option linter.unusedSimpArgs false

theorem PlG.low {w w' : World} {K K' : Nat → Prop} {X base : Nat} {v v' : Value} (h : PlG w w' K X K' v v') (hK : ∀ k, K k → base ≤ k) (hX : base ≤ X) (hB : base ≤ w.heap.size) : Below base w w' ∧ ∀ k, K' k → base ≤ k :=
  ⟨h.1.below hB (fun k _ e => e.elim (hK k) (fun e => e ▸ hX)), fun k hk => (h.2.1 k hk).elim (hK k) (fun e => Nat.le_trans hB e)⟩
/-- A trie that is zero, at B, and the document's, at X. -/
theorem Pr.zero {w : World} {B X : Nat} (hg : Ground w) (hb : w.heap[B]? = some (.cells #[.map none, .slice none 0 0, .map none] 81 (0, 0))) (hx : w.heap[X]? = some (.cells #[.bool false, .slice none 0 0] 69 (0, 0))) (hB : 2 ≤ B) (hX : 2 ≤ X) (hBX : B ≠ X) (hB1 : B ≠ 0 ∧ B ≠ 1) :
    Pr w (fun k => k = B) B X (.slice none 0 0) [] :=
  ⟨At.zero hb, hx, Ns.nil w, ⟨fun e => hB1.1 e.symm, fun e => hB1.2 e.symm⟩, hg, fun e => hBX e.symm, fun k hk => by (cases hk), by omega, by omega⟩
set_option maxHeartbeats 6400000 in
set_option maxRecDepth 100000 in
theorem TriePlays_walk (a : Option Addr) (c : Nat) (L : List AcT) (w : World) (hL : AcAt w a L) (hwf : ∀ x ∈ L, wfI x.s) (hlen : (L.length : Int) ≤ 9223372036854775807) (hg : Ground w) :
    Calls Tryz.prog 6 #[.slice a L.length c] w fun e w' => e = .returned (.bool true) ∧ Below w.heap.size w w' := by
  have HL : Hid (AcAt w a L) := hL
  have HG : Hid (Ground w) := hg
  have HWF : Hid (∀ x ∈ L, wfI x.s) := hwf
  obtain ⟨m, hm⟩ : ∃ m, L.length = m := ⟨_, rfl⟩
  have HM : Hid (L.length = m) := hm
  rw [hm] at hlen ⊢
  clear hL hg hm hwf
  go_enter Tryz.func6, Tryz.ntmps6
  go_wp2_with (first
    | (go_at_call 9; refine (begins_any w HG.out).mono ?_; rintro e w1 ⟨rfl, hb1⟩
       have HB1 : Hid (Below w.heap.size w w1) := hb1
       clear hb1)
    | (go_at_call 15; refine (newA w1).mono ?_; rintro e w2 ⟨rfl, rfl⟩)
    | fail)
  obtain ⟨w2, hw2⟩ : ∃ w2, w1.alloc (.cells #[.map none, .slice none 0 0, .map none] 81) = w2 := ⟨_, rfl⟩
  have HBL2 : Hid (w2.heap[w1.heap.size]? = some (.cells #[.map none, .slice none 0 0, .map none] 81 (0, 0))) := by show _ = _; rw [← hw2]; exact heap_alloc_new _ _
  have HS2 : Hid (w2.heap.size = w1.heap.size + 1) := by show _ = _; rw [← hw2]; simp
  have HB2 : Hid (Below w.heap.size w w2) := by rw [← hw2]; exact HB1.out.alloc HB1.out.size _
  rw [hw2]
  obtain ⟨w3, hw3⟩ : ∃ w3, w2.alloc (.cells #[.bool false, .slice none 0 0] 69) = w3 := ⟨_, rfl⟩
  have HP3 : Hid (Pr w3 (fun k => k = w1.heap.size) w1.heap.size w2.heap.size (.slice none 0 0) []) := by
    have h1 := (HG.out.below HB1.out).lt
    have h2 := HS2.out
    rw [← hw3]
    refine Pr.zero ((HG.out.below HB2.out).below ((Below.refl _ _).alloc (Nat.le_refl _) _)) (kept_block ((Below.refl _ _).alloc (Nat.le_refl _) _) HBL2.out) (heap_alloc_new _ _) (by omega) (by omega) (by omega) ⟨by omega, by omega⟩
  have HB3 : Hid (Below w.heap.size w w3) := by rw [← hw3]; exact HB2.out.alloc HB2.out.size _
  rw [hw3]
  clear hw2 hw3
  obtain ⟨B, hB⟩ : ∃ B, w1.heap.size = B := ⟨_, rfl⟩
  obtain ⟨X, hX⟩ : ∃ X, w2.heap.size = X := ⟨_, rfl⟩
  have HXl : Hid (w.heap.size ≤ X) := by have := HB2.out.size; show _ ≤ _; omega
  have HBl : Hid (w.heap.size ≤ B) := by have := HB1.out.size; show _ ≤ _; omega
  rw [hB, hX] at HP3
  have hBX : B + 1 = X := by have := HS2.out; omega
  rw [hB, hBX]
  clear hB hX hBX HS2 HBL2
  go_loopw [6] (fun iv wr => ∃ q : Nat, iv = .int .i64 q ∧ q ≤ m ∧ q ≤ 120 ∧ ∃ (K : Nat → Prop) (v : Value) (M : List On), Hid (M.length ≤ q) ∧ Hid (Pr wr K B X v M) ∧ Hid (∀ k, K k → w.heap.size ≤ k) ∧ Hid (Below w.heap.size w wr)) (fun iv _ => m - (intOf iv).toNat)
  case atStart => exact ⟨0, rfl, Nat.zero_le _, Nat.zero_le _, _, _, [], Nat.zero_le _, HP3.out, fun k hk => by rw [hk]; exact HBl.out, HB3.out⟩
  case round =>
    obtain ⟨q, rfl, hqm, hq120, K, v, M, HMq, HPr, HKl, HBr⟩ := hrel
    by_cases hlt : q < m
    · have hlt' : (q : Int) < (m : Int) := by omega
      by_cases h120 : q < 120
      · have h120' : (q : Int) < 120 := by omega
        obtain ⟨x, hx⟩ : ∃ x, L[q]? = some x := ⟨L[q]'(by rw [HM.out]; exact hlt), List.getElem?_eq_getElem _⟩
        have HQ : Hid (L[q]? = some x) := hx
        have HWX : Hid (wfI x.s) := HWF.out x (List.mem_of_getElem? hx)
        have HML : Hid (M.length ≤ 1000) := by have := HMq.out; show _ ≤ _; omega
        have HAL : Hid ((actL x M).length ≤ q + 1) := by have := HMq.out; have := actL_len x M; show _ ≤ _; omega
        obtain ⟨b, o, rfl, n0, n1, n2, n3, n4, n5⟩ := (HL.out.below HBr.out).at hx
        have HP : Hid _ := playG K B X v M x wr HPr.out HML.out HWX.out
        have HK : Hid (∀ (W : World) (K' : Nat → Prop) (v' : Value), Pr W K' B X v' (actL x M) → _) := fun W K' v' h => lookG K' B X v' (actL x M) x W h (by have := HAL.out; omega) HWX.out
        clear hx
        go_wp2_with (first
          | (go_at_call 25; refine Calls.mono HP.out ?_; rintro e w3 ⟨rfl, K3, v3, hP3, hG3⟩
             have HPQ : Hid (Pr w3 K3 B X v3 (actL x M)) := hP3
             have HLO : Hid (Below w.heap.size wr w3 ∧ ∀ k, K3 k → w.heap.size ≤ k) := hG3.low HKl.out HXl.out HBr.out.size
             have HBQ : Hid (Below w.heap.size w w3) := HBr.out.trans HLO.out.1
             clear n0 n1 n2 n3 n4 n5 hP3 hG3
             obtain ⟨b', o', he, n0, n1, n2, n3, n4, n5⟩ := (HL.out.below HBQ.out).at HQ.out
             simp only [Option.some.injEq, Addr.mk.injEq, and_true] at he
             obtain ⟨rfl, rfl⟩ := he)
          | (go_at_call 26; refine Calls.mono (HK.out _ _ _ HPQ.out) ?_; rintro e w4 ⟨rfl, hb4⟩
             have HP4 : Hid (Pr w4 K3 B X v3 (actL x M)) := HPQ.out.below hb4
             have HB4 : Hid (Below w.heap.size w w4) := xtrans2 HBQ.out hb4
             clear n0 n1 n2 n3 n4 n5 hb4)
          | fail)
        go_roundw
        case rel => exact ⟨q + 1, by go_num, by omega, by omega, K3, v3, _, HAL.out, HP4, HLO.out.2, HB4⟩
        case measure => simp [intOf]; omega
      · have h120' : ¬ (q : Int) < 120 := by omega
        go_wp2_with fail
        go_ret
        exact ⟨rfl, HBr.out⟩
    · have hlt' : ¬ (q : Int) < (m : Int) := by omega
      go_wp2_with fail
      go_ret
      exact ⟨rfl, HBr.out⟩
end Go.Proofs.YtbblckcjedjbcaaGreatDoor.J
namespace Go.Proofs.YtbblckcjedjbcaaGreatDoor.J
open Go.RowKit Go.Maps
set_option linter.unusedVariables false
set_option linter.unusedSimpArgs false

theorem Pr.keep {w w' : World} {K : Nat → Prop} {B X : Nat} {v : Value} {L : List On} {S : Nat → Prop} (h : Pr w K B X v L) (hc : Chg w w' S) (hK : ∀ k, K k → ¬ S k) (hX : ¬ S X) (hv : ∀ k, v.ownBlock = some k → ¬ S k) (hg : Ground w') : Pr w' K B X v L :=
  ⟨h.at'.keep hc hK, by rw [hc.block X h.lt hX]; exact h.box, row_chg h.row hc hv, h.gl, hg, h.nx, h.nv, h.x0⟩
def upd {α : Type} (f : Nat → α) (j : Nat) (x : α) : Nat → α := fun i => if i = j then x else f i
theorem upd_at {α : Type} (f : Nat → α) (j : Nat) (x : α) : upd f j x j = x := if_pos rfl
theorem upd_ne {α : Type} (f : Nat → α) {i j : Nat} (x : α) (h : ¬ i = j) : upd f j x i = f i := if_neg h
/-- Three tries and the document's, none of which has to do with another; F: blocks that none of them turns. -/
structure Tr3 (w : World) (base : Nat) (B X : Nat → Nat) (F : Nat → Prop) (K : Nat → Nat → Prop) (v : Nat → Value) (M : Nat → List On) : Prop where
  pr : ∀ j, j < 3 → Pr w (K j) (B j) (X j) (v j) (M j)
  low : ∀ j, j < 3 → ∀ k, K j k → base ≤ k
  lowX : ∀ j, j < 3 → base ≤ X j
  size : base ≤ w.heap.size
  apart : ∀ i j, i < 3 → j < 3 → ¬ i = j → (∀ k, K i k → ¬ K j k) ∧ ¬ K i (X j) ∧ ¬ X i = X j ∧ (∀ k, (v i).ownBlock = some k → ¬ K j k ∧ ¬ k = X j)
  fix : ∀ k, F k → k < w.heap.size ∧ ∀ j, j < 3 → ¬ K j k ∧ ¬ k = X j
theorem Tr3.below {w w' : World} {base : Nat} {B X : Nat → Nat} {F : Nat → Prop} {K : Nat → Nat → Prop} {v : Nat → Value} {M : Nat → List On} (h : Tr3 w base B X F K v M) (hb : Below w.heap.size w w') : Tr3 w' base B X F K v M :=
  ⟨fun j hj => (h.pr j hj).below hb, h.low, h.lowX, Nat.le_trans h.size hb.size, h.apart, fun k hk => ⟨Nat.lt_of_lt_of_le (h.fix k hk).1 hb.size, (h.fix k hk).2⟩⟩
theorem Tr3.step {w w' : World} {base j : Nat} {B X : Nat → Nat} {F : Nat → Prop} {K : Nat → Nat → Prop} {v : Nat → Value} {M : Nat → List On} {K' : Nat → Prop} {v' : Value} {M' : List On} (h : Tr3 w base B X F K v M) (hj : j < 3)
    (hP : Pr w' K' (B j) (X j) v' M') (hG : PlG w w' (K j) (X j) K' (v j) v') : Tr3 w' base B X F (upd K j K') (upd v j v') (upd M j M') ∧ Below base w w' ∧ ∀ k, F k → w'.heap[k]? = w.heap[k]? := by
  have hsz : w.heap.size ≤ w'.heap.size := hG.1.size
  have hlow := hG.low (h.low j hj) (h.lowX j hj) h.size
  refine ⟨⟨fun i hi => ?_, fun i hi k hk => ?_, h.lowX, Nat.le_trans h.size hsz, fun i l hi hl hil => ?_, fun k hk => ⟨Nat.lt_of_lt_of_le (h.fix k hk).1 hsz, fun i hi => ?_⟩⟩, hlow.1, fun k hk => ?_⟩
  · by_cases e : i = j
    · subst e
      rw [upd_at, upd_at, upd_at]
      exact hP
    · rw [upd_ne _ _ e, upd_ne _ _ e, upd_ne _ _ e]
      have ha := h.apart i j hi hj e
      have hb := h.apart j i hj hi (fun e' => e e'.symm)
      exact (h.pr i hi).keep hG.1 (fun k hk hs => hs.elim (ha.1 k hk) (fun e' => ha.2.1 (e' ▸ hk))) (fun hs => hs.elim hb.2.1 ha.2.2.1) (fun k hk hs => hs.elim (ha.2.2.2 k hk).1 (ha.2.2.2 k hk).2) hP.gr
  · by_cases e : i = j
    · subst e
      rw [upd_at] at hk
      exact hlow.2 k hk
    · rw [upd_ne _ _ e] at hk
      exact h.low i hi k hk
  · by_cases e : i = j
    · subst e
      have hne : ¬ l = i := fun e' => hil e'.symm
      have ha := h.apart i l hi hl hil
      rw [upd_at, upd_at, upd_ne _ _ hne]
      refine ⟨fun k hk hl' => ?_, fun hk => ?_, ha.2.2.1, fun k hk => ⟨fun hl' => ?_, fun e' => ?_⟩⟩
      · rcases hG.2.1 k hk with h1 | h1
        · exact ha.1 k h1 hl'
        · have := (h.pr l hl).at'.lt k hl'; omega
      · rcases hG.2.1 _ hk with h1 | h1
        · exact ha.2.1 h1
        · have := (h.pr l hl).lt; omega
      · rcases hG.2.2 k hk with h1 | h1
        · exact (ha.2.2.2 k h1).1 hl'
        · have := (h.pr l hl).at'.lt k hl'; omega
      · rcases hG.2.2 k hk with h1 | h1
        · exact (ha.2.2.2 k h1).2 e'
        · have := (h.pr l hl).lt; omega
    · by_cases e2 : l = j
      · subst e2
        have ha := h.apart i l hi hl hil
        rw [upd_at, upd_ne _ _ e, upd_ne _ _ e]
        refine ⟨fun k hk hl' => ?_, ha.2.1, ha.2.2.1, fun k hk => ⟨fun hl' => ?_, (ha.2.2.2 k hk).2⟩⟩
        · rcases hG.2.1 k hl' with h1 | h1
          · exact ha.1 k hk h1
          · have := (h.pr i hi).at'.lt k hk; omega
        · rcases hG.2.1 k hl' with h1 | h1
          · exact (ha.2.2.2 k hk).1 h1
          · have := (row_block (h.pr i hi).row k hk).2; omega
      · rw [upd_ne _ _ e, upd_ne _ _ e, upd_ne _ _ e2]
        exact h.apart i l hi hl hil
  · have hf := h.fix k hk
    by_cases e : i = j
    · subst e
      rw [upd_at]
      refine ⟨fun hk' => ?_, (hf.2 i hi).2⟩
      rcases hG.2.1 k hk' with h1 | h1
      · exact (hf.2 i hi).1 h1
      · have := hf.1; omega
    · rw [upd_ne _ _ e]
      exact hf.2 i hi
  · have hf := h.fix k hk
    exact hG.1.block k hf.1 (fun hs => hs.elim (hf.2 j hj).1 (hf.2 j hj).2)
end Go.Proofs.YtbblckcjedjbcaaGreatDoor.J
namespace Go.Proofs.YtbblckcjedjbcaaGreatDoor.J
open Go.RowKit Go.Maps
set_option linter.unusedVariables false
set_option linter.unusedSimpArgs false

abbrev oT : Obj := .cells #[.map none, .slice none 0 0, .map none] 81
abbrev oR : Obj := .cells #[.bool false, .slice none 0 0] 69
abbrev xP (X : Nat) : Value := .pointer (some ⟨X, 0, none⟩)
abbrev oTs (n : Nat) : Obj := .cells #[ndV n, ndV (n + 1), ndV (n + 2)] 26
abbrev oRs (n : Nat) : Obj := .cells #[xP n, xP (n + 1), xP (n + 2)] 66
abbrev w3T (w : World) (n : Nat) : World := (((w.alloc oT).alloc oT).alloc oT).alloc (oTs n)
abbrev w3R (w : World) (n : Nat) : World := (((w.alloc oR).alloc oR).alloc oR).alloc (oRs n)
theorem start3 (w : World) (n : Nat) (hg : Ground w) (hn : w.heap.size = n) :
    Tr3 (w3R (w3T w n) (n + 4)) n (fun j => n + j) (fun j => n + 4 + j) (fun k => k = n + 3 ∨ k = n + 7) (fun j k => k = n + j) (fun _ => .slice none 0 0) (fun _ => []) ∧
    (w3R (w3T w n) (n + 4)).heap[n + 3]? = some (.cells #[ndV n, ndV (n + 1), ndV (n + 2)] 26 (0, 0)) ∧
    (w3R (w3T w n) (n + 4)).heap[n + 7]? = some (.cells #[xP (n + 4), xP (n + 4 + 1), xP (n + 4 + 2)] 66 (0, 0)) ∧ Below n w (w3R (w3T w n) (n + 4)) := by
  have s1 : (w.alloc oT).heap.size = n + 1 := by rw [World.size_alloc, hn]
  have s2 : ((w.alloc oT).alloc oT).heap.size = n + 2 := by rw [World.size_alloc, s1]
  have s3 : (((w.alloc oT).alloc oT).alloc oT).heap.size = n + 3 := by rw [World.size_alloc, s2]
  have s4 : (w3T w n).heap.size = n + 4 := by rw [World.size_alloc, s3]
  have s5 : ((w3T w n).alloc oR).heap.size = n + 5 := by rw [World.size_alloc, s4]
  have s6 : (((w3T w n).alloc oR).alloc oR).heap.size = n + 6 := by rw [World.size_alloc, s5]
  have s7 : ((((w3T w n).alloc oR).alloc oR).alloc oR).heap.size = n + 7 := by rw [World.size_alloc, s6]
  have s8 : (w3R (w3T w n) (n + 4)).heap.size = n + 8 := by rw [World.size_alloc, s7]
  have n1 : ∀ (W : World) (o : Obj) (m : Nat), W.heap.size = m → (W.alloc o).heap[m]? = some (.cells #[] 0 (0, 0)) ∨ True := fun _ _ _ _ => .inr trivial
  have up : ∀ (W : World) (o : Obj) {b : Nat} {x : Obj}, W.heap[b]? = some x → (W.alloc o).heap[b]? = some x := fun W o b x h => new_old h _
  have b0 : (w3R (w3T w n) (n + 4)).heap[n]? = some (.cells #[.map none, .slice none 0 0, .map none] 81 (0, 0)) := by
    have h := heap_alloc_new w oT
    rw [hn] at h
    exact up _ _ (up _ _ (up _ _ (up _ _ (up _ _ (up _ _ (up _ _ h))))))
  have b1 : (w3R (w3T w n) (n + 4)).heap[n + 1]? = some (.cells #[.map none, .slice none 0 0, .map none] 81 (0, 0)) := by
    have h := heap_alloc_new (w.alloc oT) oT
    rw [s1] at h
    exact up _ _ (up _ _ (up _ _ (up _ _ (up _ _ (up _ _ h)))))
  have b2 : (w3R (w3T w n) (n + 4)).heap[n + 2]? = some (.cells #[.map none, .slice none 0 0, .map none] 81 (0, 0)) := by
    have h := heap_alloc_new ((w.alloc oT).alloc oT) oT
    rw [s2] at h
    exact up _ _ (up _ _ (up _ _ (up _ _ (up _ _ h))))
  have b3 : (w3R (w3T w n) (n + 4)).heap[n + 3]? = some (.cells #[ndV n, ndV (n + 1), ndV (n + 2)] 26 (0, 0)) := by
    have h := heap_alloc_new (((w.alloc oT).alloc oT).alloc oT) (oTs n)
    rw [s3] at h
    exact up _ _ (up _ _ (up _ _ (up _ _ h)))
  have b4 : (w3R (w3T w n) (n + 4)).heap[n + 4]? = some (.cells #[.bool false, .slice none 0 0] 69 (0, 0)) := by
    have h := heap_alloc_new (w3T w n) oR
    rw [s4] at h
    exact up _ _ (up _ _ (up _ _ h))
  have b5 : (w3R (w3T w n) (n + 4)).heap[n + 5]? = some (.cells #[.bool false, .slice none 0 0] 69 (0, 0)) := by
    have h := heap_alloc_new ((w3T w n).alloc oR) oR
    rw [s5] at h
    exact up _ _ (up _ _ h)
  have b6 : (w3R (w3T w n) (n + 4)).heap[n + 6]? = some (.cells #[.bool false, .slice none 0 0] 69 (0, 0)) := by
    have h := heap_alloc_new (((w3T w n).alloc oR).alloc oR) oR
    rw [s6] at h
    exact up _ _ h
  have b7 : (w3R (w3T w n) (n + 4)).heap[n + 7]? = some (.cells #[xP (n + 4), xP (n + 4 + 1), xP (n + 4 + 2)] 66 (0, 0)) := by
    have h := heap_alloc_new ((((w3T w n).alloc oR).alloc oR).alloc oR) (oRs (n + 4))
    rw [s7] at h
    exact h
  have hbel : Below n w (w3R (w3T w n) (n + 4)) := by
    have h0 : Below n w w := Below.refl _ _
    have le : ∀ {k m : Nat}, m = n + k → n ≤ m := fun h => by omega
    exact ((((((((h0.alloc (by omega) _).alloc (le s1) _).alloc (le s2) _).alloc (le s3) _).alloc (le s4) _).alloc (le s5) _).alloc (le s6) _).alloc (le s7) _)
  have hG : Ground (w3R (w3T w n) (n + 4)) := hg.below (by rw [hn]; exact hbel)
  have hlt := hg.lt
  refine ⟨⟨fun j hj => ?_, fun j hj k hk => by rw [hk]; omega, fun j hj => by show n ≤ n + 4 + j; omega, by omega, fun i j hi hj hij => ⟨fun k hk hk' => ?_, fun hk => ?_, fun e => ?_, fun k hk => by (cases hk)⟩, fun k hk => ⟨by omega, fun j hj => ⟨fun hk' => ?_, fun e => ?_⟩⟩⟩, b3, b7, hbel⟩
  · have h012 : j = 0 ∨ j = 1 ∨ j = 2 := by omega
    rcases h012 with rfl | rfl | rfl
    · exact Pr.zero hG b0 b4 (by omega) (by omega) (by omega) ⟨by omega, by omega⟩
    · exact Pr.zero hG b1 b5 (by omega) (by omega) (by omega) ⟨by omega, by omega⟩
    · exact Pr.zero hG b2 b6 (by omega) (by omega) (by omega) ⟨by omega, by omega⟩
  · have h1 : k = n + i := hk
    have h2 : k = n + j := hk'
    omega
  · have h1 : n + 4 + j = n + i := hk
    omega
  · have h1 : n + 4 + i = n + 4 + j := e
    omega
  · have h1 : k = n + j := hk'
    omega
  · have h1 : k = n + 4 + j := e
    omega
theorem Tr3.base {w : World} {n base : Nat} {B X : Nat → Nat} {F : Nat → Prop} {K : Nat → Nat → Prop} {v : Nat → Value} {M : Nat → List On} (h : Tr3 w n B X F K v M) (hb : base ≤ n) : Tr3 w base B X F K v M :=
  ⟨h.pr, fun j hj k hk => Nat.le_trans hb (h.low j hj k hk), fun j hj => Nat.le_trans hb (h.lowX j hj), Nat.le_trans hb h.size, h.apart, h.fix⟩
set_option maxHeartbeats 6400000 in
set_option maxRecDepth 100000 in
theorem TrieTwo_walk (a : Option Addr) (c : Nat) (L : List AcT) (w : World) (hL : AcAt w a L) (hwf : ∀ x ∈ L, wfI x.s) (hlen : (L.length : Int) ≤ 9223372036854775807) (hg : Ground w) :
    Calls Tryz.prog 7 #[.slice a L.length c] w fun e w' => e = .returned (.bool true) ∧ Below w.heap.size w w' := by
  have HL : Hid (AcAt w a L) := hL
  have HG : Hid (Ground w) := hg
  have HWF : Hid (∀ x ∈ L, wfI x.s) := hwf
  obtain ⟨m, hm⟩ : ∃ m, L.length = m := ⟨_, rfl⟩
  have HM : Hid (L.length = m) := hm
  rw [hm] at hlen ⊢
  clear hL hg hm hwf
  go_enter Tryz.func7, Tryz.ntmps7
  go_wp2_with (first
    | (go_at_call 9; refine (begins_any w HG.out).mono ?_; rintro e w1 ⟨rfl, hb1⟩
       have HB1 : Hid (Below w.heap.size w w1) := hb1
       clear hb1)
    | (go_at_call 15; refine Calls.mono (newA _) ?_; rintro e w2 ⟨rfl, rfl⟩)
    | fail)
  obtain ⟨n, hn⟩ : ∃ n, w1.heap.size = n := ⟨_, rfl⟩
  obtain ⟨hT, hA, hX, hB⟩ := start3 w1 n (HG.out.below HB1.out) hn
  have HNL : Hid (w.heap.size ≤ n) := by have := HB1.out.size; show _ ≤ _; omega
  obtain ⟨W, hW⟩ : ∃ W, w3R (w3T w1 n) (n + 4) = W := ⟨_, rfl⟩
  have hW' : ((((((((w1).alloc (.cells #[.map none, .slice none 0 0, .map none] 81)).alloc (.cells #[.map none, .slice none 0 0, .map none] 81)).alloc (.cells #[.map none, .slice none 0 0, .map none] 81)).alloc (.cells #[ndV (n), ndV (n + 1), .pointer (some ⟨n + 1 + 1, 0, none⟩)] 26)).alloc (.cells #[.bool false, .slice none 0 0] 69)).alloc (.cells #[.bool false, .slice none 0 0] 69)).alloc (.cells #[.bool false, .slice none 0 0] 69)).alloc (.cells #[.pointer (some ⟨n + 1 + 1 + 1 + 1, 0, none⟩), .pointer (some ⟨n + 1 + 1 + 1 + 1 + 1, 0, none⟩), .pointer (some ⟨n + 1 + 1 + 1 + 1 + 1 + 1, 0, none⟩)] 66) = W := hW
  rw [hW] at hT hA hX hB
  rw [hn, hW']
  clear hW hW'
  obtain ⟨Y, hY⟩ : ∃ Y, n + 7 = Y := ⟨_, rfl⟩
  obtain ⟨A, hAe⟩ : ∃ A, n + 3 = A := ⟨_, rfl⟩
  have hY' : n + 1 + 1 + 1 + 1 + 1 + 1 + 1 = Y := hY
  have hA' : n + 1 + 1 + 1 = A := hAe
  rw [hY] at hT hX
  rw [hAe] at hT hA
  rw [hY', hA']
  clear hY hAe hY' hA'
  have HBW : Hid (Below w.heap.size w W) := by
    have h1 : Below w1.heap.size w1 W := by rw [hn]; exact hB
    exact xtrans2 HB1.out h1
  have hcA : ∀ w' : World, w'.heap[A]? = W.heap[A]? → ∀ k : Nat, k < 3 → w'.cell? ⟨A, k, none⟩ = some (ndV (n + k)) := fun w' h k hk => by
    rw [hA] at h
    obtain ⟨c0, c1, c2⟩ := cells_3W h
    have h012 : k = 0 ∨ k = 1 ∨ k = 2 := by omega
    rcases h012 with rfl | rfl | rfl
    · exact c0
    · exact c1
    · exact c2
  have hcY : ∀ w' : World, w'.heap[Y]? = W.heap[Y]? → ∀ k : Nat, k < 3 → w'.cell? ⟨Y, k, none⟩ = some (xP (n + 4 + k)) := fun w' h k hk => by
    rw [hX] at h
    obtain ⟨c0, c1, c2⟩ := cells_3W h
    have h012 : k = 0 ∨ k = 1 ∨ k = 2 := by omega
    rcases h012 with rfl | rfl | rfl
    · exact c0
    · exact c1
    · exact c2
  obtain ⟨Bf, hBf⟩ : ∃ Bf : Nat → Nat, (fun j => n + j) = Bf := ⟨_, rfl⟩
  obtain ⟨Xf, hXf⟩ : ∃ Xf : Nat → Nat, (fun j => n + 4 + j) = Xf := ⟨_, rfl⟩
  have HCA : Hid (∀ w' : World, w'.heap[A]? = W.heap[A]? → ∀ k : Nat, k < 3 → w'.cell? ⟨A, k, none⟩ = some (ndV (Bf k))) := by rw [← hBf]; exact hcA
  have HCY : Hid (∀ w' : World, w'.heap[Y]? = W.heap[Y]? → ∀ k : Nat, k < 3 → w'.cell? ⟨Y, k, none⟩ = some (xP (Xf k))) := by rw [← hXf]; exact hcY
  rw [hBf, hXf] at hT
  have HT0 : Hid _ := hT.base HNL.out
  clear hT hA hX hB hcA hcY hBf hXf hn
  go_loopw [6] (fun iv wr => ∃ q : Nat, iv = .int .i64 q ∧ q ≤ m ∧ q ≤ 120 ∧ ∃ (K : Nat → Nat → Prop) (v : Nat → Value) (M : Nat → List On), Hid (∀ j, j < 3 → (M j).length ≤ q) ∧ Hid (Tr3 wr w.heap.size Bf Xf (fun k => k = A ∨ k = Y) K v M) ∧ Hid (wr.heap[A]? = W.heap[A]?) ∧ Hid (wr.heap[Y]? = W.heap[Y]?) ∧ Hid (Below w.heap.size w wr)) (fun iv _ => m - (intOf iv).toNat)
  case atStart => exact ⟨0, rfl, Nat.zero_le _, Nat.zero_le _, _, _, _, fun j hj => Nat.zero_le _, HT0.out, rfl, rfl, HBW.out⟩
  case round =>
    obtain ⟨q, rfl, hqm, hq120, K, v, M, HMq, HTr, HAr, HYr, HBr⟩ := hrel
    by_cases hlt : q < m
    · have hlt' : (q : Int) < (m : Int) := by omega
      by_cases h120 : q < 120
      · have h120' : (q : Int) < 120 := by omega
        obtain ⟨x, hx⟩ : ∃ x, L[q]? = some x := ⟨L[q]'(by rw [HM.out]; exact hlt), List.getElem?_eq_getElem _⟩
        have HQ : Hid (L[q]? = some x) := hx
        have HWX : Hid (wfI x.s) := HWF.out x (List.mem_of_getElem? hx)
        obtain ⟨b, o, rfl, n0, n1, n2, n3, n4, n5⟩ := (HL.out.below HBr.out).at hx
        clear hx
        have hqq : (q : Int) * (q : Int) < 14400 := by
          have : q * q < 120 * 120 := Nat.mul_self_lt_mul_self h120
          exact_mod_cast this
        have hqp : (0 : Int) ≤ (q : Int) * (q : Int) := by exact_mod_cast Nat.zero_le (q * q)
        have HSTP : Hid (∀ (V : World), Below wr.heap.size wr V → ∀ (k : Nat), k < 3 → Calls Tryz.prog 25 #[ndV (Bf k), xP (Xf k), x.val] V fun e w' => e = .returned (.bool true) ∧ ∃ (K' : Nat → Nat → Prop) (v' : Nat → Value) (M' : Nat → List On), (∀ j, j < 3 → (M' j).length ≤ q + 1) ∧ Tr3 w' w.heap.size Bf Xf (fun k => k = A ∨ k = Y) K' v' M' ∧ w'.heap[A]? = W.heap[A]? ∧ w'.heap[Y]? = W.heap[Y]? ∧ Below w.heap.size w w') := fun V hb k hk3 => by
          have hT := HTr.out.below hb
          refine (playG (K k) (Bf k) (Xf k) (v k) (M k) x V (hT.pr k hk3) (by have := HMq.out k hk3; omega) HWX.out).mono ?_
          rintro e w' ⟨rfl, K', v', hP, hG⟩
          have hs := hT.step hk3 hP hG
          refine ⟨rfl, _, _, _, fun j hj => ?_, hs.1, ((hs.2.2 A (.inl rfl)).trans (hb.block A (HTr.out.fix A (.inl rfl)).1)).trans HAr.out, ((hs.2.2 Y (.inr rfl)).trans (hb.block Y (HTr.out.fix Y (.inr rfl)).1)).trans HYr.out, (xtrans2 HBr.out hb).trans hs.2.1⟩
          by_cases e : j = k
          · subst e
            rw [upd_at]
            have h1 := actL_len x (M j)
            have h2 := HMq.out j hj
            omega
          · rw [upd_ne _ _ e]
            have h2 := HMq.out j hj
            omega
        have HFA : Hid (∀ V : World, V.heap[A]? = W.heap[A]? → V.heap[Y]? = W.heap[Y]? → Below w.heap.size w V → ∀ k : Nat, k < 3 → V.cell? ⟨A, k, none⟩ = some (ndV (Bf k)) ∧ V.cell? ⟨Y, k, none⟩ = some (xP (Xf k)) ∧ V.cell? ⟨b, o + q * 6, none⟩ = some (.int .i64 x.K) ∧ V.cell? ⟨b, o + q * 6 + 1, none⟩ = some (.int .i64 x.s) ∧ V.cell? ⟨b, o + q * 6 + 2, none⟩ = some (.int .i64 x.i) ∧ V.cell? ⟨b, o + q * 6 + 3, none⟩ = some (.string x.p) ∧ V.cell? ⟨b, o + q * 6 + 4, none⟩ = some (.int .i64 x.k) ∧ V.cell? ⟨b, o + q * 6 + 5, none⟩ = some (.int .i64 x.f)) := fun V ha hy hb k hk => by
          obtain ⟨b', o', he, n0, n1, n2, n3, n4, n5⟩ := (HL.out.below hb).at HQ.out
          simp only [Option.some.injEq, Addr.mk.injEq, and_true] at he
          obtain ⟨rfl, rfl⟩ := he
          exact ⟨HCA.out V ha k hk, HCY.out V hy k hk, n0, n1, n2, n3, n4, n5⟩
        have HKP : Hid (∀ V : World, Below wr.heap.size wr V → V.heap[A]? = W.heap[A]? ∧ V.heap[Y]? = W.heap[Y]? ∧ Below w.heap.size w V) := fun V hb =>
          ⟨(hb.block A (HTr.out.fix A (.inl rfl)).1).trans HAr.out, (hb.block Y (HTr.out.fix Y (.inr rfl)).1).trans HYr.out, xtrans2 HBr.out hb⟩
        by_cases he : Int.tmod x.s 2 = 0
        · go_upto_region 12 with fail
          obtain ⟨k, hk3, hk⟩ : ∃ k : Nat, k < 3 ∧ ((q : Int) % 3) = (k : Int) := ⟨(((q : Int) % 3)).toNat, by omega, by omega⟩
          rw [hk]
          have hk3' : (k : Int) < 3 := by omega
          have HFB : Hid (∀ V : World, V.heap[A]? = W.heap[A]? → V.heap[Y]? = W.heap[Y]? → Below w.heap.size w V → _) := fun V ha hy hb => HFA.out V ha hy hb k hk3
          have HFK : Hid (∀ V : World, Below wr.heap.size wr V → _) := fun V hb => HFB.out V (HKP.out V hb).1 (HKP.out V hb).2.1 (HKP.out V hb).2.2
          have HP : Hid (∀ V : World, Below wr.heap.size wr V → _) := fun V hb => HSTP.out V hb k hk3
          clear hk n0 n1 n2 n3 n4 n5
          obtain ⟨cA, cY, n0, n1, n2, n3, n4, n5⟩ := HFK.out wr (Below.refl _ _)
          go_region_held3 (fun V => V.cell? ⟨A, k, none⟩ = some (ndV (Bf k)) ∧ V.cell? ⟨Y, k, none⟩ = some (xP (Xf k)) ∧ V.cell? ⟨b, o + q * 6, none⟩ = some (.int .i64 x.K) ∧ V.cell? ⟨b, o + q * 6 + 1, none⟩ = some (.int .i64 x.s) ∧ V.cell? ⟨b, o + q * 6 + 2, none⟩ = some (.int .i64 x.i) ∧ V.cell? ⟨b, o + q * 6 + 3, none⟩ = some (.string x.p) ∧ V.cell? ⟨b, o + q * 6 + 4, none⟩ = some (.int .i64 x.k) ∧ V.cell? ⟨b, o + q * 6 + 5, none⟩ = some (.int .i64 x.f))
            (first
            | exact HFB.out _ HA3.out HY3.out HB3.out
            | (refine HFK.out _ ?_; repeat (first | exact Below.refl _ _ | refine below_drewN ?_ _ | refine below_drew ?_))
            | go_keep)
            (first
            | (go_at_call 25; refine Calls.mono (HP.out _ (by repeat (first | exact Below.refl _ _ | refine below_drewN ?_ _ | refine below_drew ?_))) ?_; rintro e w3 ⟨rfl, K3, v3, M3, hM3, hT3, hA3, hY3, hB3⟩
               have HM3 : Hid (∀ j, j < 3 → (M3 j).length ≤ q + 1) := hM3
               have HT3 : Hid (Tr3 w3 w.heap.size Bf Xf (fun k => k = A ∨ k = Y) K3 v3 M3) := hT3
               have HA3 : Hid (w3.heap[A]? = W.heap[A]?) := hA3
               have HY3 : Hid (w3.heap[Y]? = W.heap[Y]?) := hY3
               have HB3 : Hid (Below w.heap.size w w3) := hB3
               clear n0 n1 n2 n3 n4 n5 cA cY hM3 hT3 hA3 hY3 hB3)
            | fail)
          go_wp2_with fail
          go_roundw
          case rel => exact ⟨q + 1, by go_num, by omega, by omega, K3, v3, M3, HM3, HT3, HA3, HY3, HB3⟩
          case measure => simp [intOf]; omega
        · go_upto_region 12 with fail
          obtain ⟨k, hk3, hk⟩ : ∃ k : Nat, k < 3 ∧ ((q : Int) * (q : Int) % 3) = (k : Int) := ⟨(((q : Int) * (q : Int) % 3)).toNat, by omega, by omega⟩
          rw [hk]
          have hk3' : (k : Int) < 3 := by omega
          have HFB : Hid (∀ V : World, V.heap[A]? = W.heap[A]? → V.heap[Y]? = W.heap[Y]? → Below w.heap.size w V → _) := fun V ha hy hb => HFA.out V ha hy hb k hk3
          have HFK : Hid (∀ V : World, Below wr.heap.size wr V → _) := fun V hb => HFB.out V (HKP.out V hb).1 (HKP.out V hb).2.1 (HKP.out V hb).2.2
          have HP : Hid (∀ V : World, Below wr.heap.size wr V → _) := fun V hb => HSTP.out V hb k hk3
          clear hk n0 n1 n2 n3 n4 n5
          obtain ⟨cA, cY, n0, n1, n2, n3, n4, n5⟩ := HFK.out wr (Below.refl _ _)
          go_region_held3 (fun V => V.cell? ⟨A, k, none⟩ = some (ndV (Bf k)) ∧ V.cell? ⟨Y, k, none⟩ = some (xP (Xf k)) ∧ V.cell? ⟨b, o + q * 6, none⟩ = some (.int .i64 x.K) ∧ V.cell? ⟨b, o + q * 6 + 1, none⟩ = some (.int .i64 x.s) ∧ V.cell? ⟨b, o + q * 6 + 2, none⟩ = some (.int .i64 x.i) ∧ V.cell? ⟨b, o + q * 6 + 3, none⟩ = some (.string x.p) ∧ V.cell? ⟨b, o + q * 6 + 4, none⟩ = some (.int .i64 x.k) ∧ V.cell? ⟨b, o + q * 6 + 5, none⟩ = some (.int .i64 x.f))
            (first
            | exact HFB.out _ HA3.out HY3.out HB3.out
            | (refine HFK.out _ ?_; repeat (first | exact Below.refl _ _ | refine below_drewN ?_ _ | refine below_drew ?_))
            | go_keep)
            (first
            | (go_at_call 25; refine Calls.mono (HP.out _ (by repeat (first | exact Below.refl _ _ | refine below_drewN ?_ _ | refine below_drew ?_))) ?_; rintro e w3 ⟨rfl, K3, v3, M3, hM3, hT3, hA3, hY3, hB3⟩
               have HM3 : Hid (∀ j, j < 3 → (M3 j).length ≤ q + 1) := hM3
               have HT3 : Hid (Tr3 w3 w.heap.size Bf Xf (fun k => k = A ∨ k = Y) K3 v3 M3) := hT3
               have HA3 : Hid (w3.heap[A]? = W.heap[A]?) := hA3
               have HY3 : Hid (w3.heap[Y]? = W.heap[Y]?) := hY3
               have HB3 : Hid (Below w.heap.size w w3) := hB3
               clear n0 n1 n2 n3 n4 n5 cA cY hM3 hT3 hA3 hY3 hB3)
            | fail)
          go_wp2_with fail
          go_roundw
          case rel => exact ⟨q + 1, by go_num, by omega, by omega, K3, v3, M3, HM3, HT3, HA3, HY3, HB3⟩
          case measure => simp [intOf]; omega
      · have h120' : ¬ (q : Int) < 120 := by omega
        obtain ⟨wo, hwo⟩ : ∃ wo, wo = wr := ⟨_, rfl⟩
        subst hwo
        have HKF : Hid (∀ V : World, Below wo.heap.size wo V → V.heap[A]? = W.heap[A]? ∧ V.heap[Y]? = W.heap[Y]? ∧ Below w.heap.size w V) := fun V hb =>
          ⟨(hb.block A (HTr.out.fix A (.inl rfl)).1).trans HAr.out, (hb.block Y (HTr.out.fix Y (.inr rfl)).1).trans HYr.out, xtrans2 HBr.out hb⟩
        go_wp2_with fail
        go_loopw [9] (fun iv wr => ∃ r : Nat, iv = .int .i64 r ∧ r ≤ 3 ∧ Hid (Below wo.heap.size wo wr)) (fun iv _ => 3 - (intOf iv).toNat)
        case atStart => exact ⟨0, rfl, by decide, Below.refl _ _⟩
        case round =>
          obtain ⟨r, rfl, hr3, HBz⟩ := hrel
          by_cases hk3 : r < 3
          · have hk3' : (r : Int) < 3 := by omega
            have HCK : Hid (∀ V : World, Below wr.heap.size wr V → V.cell? ⟨A, r, none⟩ = some (ndV (Bf r)) ∧ V.cell? ⟨Y, r, none⟩ = some (xP (Xf r))) := fun V hb =>
              ⟨HCA.out V (HKF.out V (xtrans2 HBz.out hb)).1 r hk3, HCY.out V (HKF.out V (xtrans2 HBz.out hb)).2.1 r hk3⟩
            have HML : Hid ((M r).length ≤ 1000) := by have := HMq.out r hk3; show _ ≤ _; omega
            have HLK : Hid (∀ V : World, Below wr.heap.size wr V → _) := fun V hb => lookG (K r) (Bf r) (Xf r) (v r) (M r) ⟨0, 1, 0, ⟨#[47, 97]⟩, 0, 5⟩ V ((HTr.out.below (xtrans2 HBz.out hb)).pr r hk3) HML.out (show wfI 1 by unfold wfI; decide)
            obtain ⟨cA, cY⟩ := HCK.out wr (Below.refl _ _)
            go_upto_region 18 with fail
            go_region_held3 (fun V => V.cell? ⟨A, r, none⟩ = some (ndV (Bf r)) ∧ V.cell? ⟨Y, r, none⟩ = some (xP (Xf r)))
              (first
              | exact HCK.out _ HB4.out
              | (refine HCK.out _ ?_; repeat (first | exact Below.refl _ _ | exact HB4.out | refine below_drewN ?_ _ | refine below_drew ?_))
              | go_keep)
              (first
              | (go_at_call 26; refine Calls.mono (HLK.out _ (by repeat (first | exact Below.refl _ _ | refine below_drewN ?_ _ | refine below_drew ?_))) ?_; rintro e w4 ⟨rfl, hb4⟩
                 have HB4 : Hid (Below wr.heap.size wr w4) := (by first | exact of_drew hb4 | exact hb4)
                 clear hb4 cA cY)
              | fail)
            go_wp2_with fail
            go_roundw
            case rel => exact ⟨r + 1, by go_num, by omega, xtrans2 HBz.out HB4.out⟩
            case measure => simp [intOf]; omega
          · have hk3' : ¬ (r : Int) < 3 := by omega
            go_wp2_with fail
            go_ret
            exact ⟨rfl, (HKF.out wr HBz.out).2.2⟩
    · have hlt' : ¬ (q : Int) < (m : Int) := by omega
      obtain ⟨wo, hwo⟩ : ∃ wo, wo = wr := ⟨_, rfl⟩
      subst hwo
      have HKF : Hid (∀ V : World, Below wo.heap.size wo V → V.heap[A]? = W.heap[A]? ∧ V.heap[Y]? = W.heap[Y]? ∧ Below w.heap.size w V) := fun V hb =>
        ⟨(hb.block A (HTr.out.fix A (.inl rfl)).1).trans HAr.out, (hb.block Y (HTr.out.fix Y (.inr rfl)).1).trans HYr.out, xtrans2 HBr.out hb⟩
      go_wp2_with fail
      go_loopw [9] (fun iv wr => ∃ r : Nat, iv = .int .i64 r ∧ r ≤ 3 ∧ Hid (Below wo.heap.size wo wr)) (fun iv _ => 3 - (intOf iv).toNat)
      case atStart => exact ⟨0, rfl, by decide, Below.refl _ _⟩
      case round =>
        obtain ⟨r, rfl, hr3, HBz⟩ := hrel
        by_cases hk3 : r < 3
        · have hk3' : (r : Int) < 3 := by omega
          have HCK : Hid (∀ V : World, Below wr.heap.size wr V → V.cell? ⟨A, r, none⟩ = some (ndV (Bf r)) ∧ V.cell? ⟨Y, r, none⟩ = some (xP (Xf r))) := fun V hb =>
            ⟨HCA.out V (HKF.out V (xtrans2 HBz.out hb)).1 r hk3, HCY.out V (HKF.out V (xtrans2 HBz.out hb)).2.1 r hk3⟩
          have HML : Hid ((M r).length ≤ 1000) := by have := HMq.out r hk3; show _ ≤ _; omega
          have HLK : Hid (∀ V : World, Below wr.heap.size wr V → _) := fun V hb => lookG (K r) (Bf r) (Xf r) (v r) (M r) ⟨0, 1, 0, ⟨#[47, 97]⟩, 0, 5⟩ V ((HTr.out.below (xtrans2 HBz.out hb)).pr r hk3) HML.out (show wfI 1 by unfold wfI; decide)
          obtain ⟨cA, cY⟩ := HCK.out wr (Below.refl _ _)
          go_upto_region 18 with fail
          go_region_held3 (fun V => V.cell? ⟨A, r, none⟩ = some (ndV (Bf r)) ∧ V.cell? ⟨Y, r, none⟩ = some (xP (Xf r)))
            (first
            | exact HCK.out _ HB4.out
            | (refine HCK.out _ ?_; repeat (first | exact Below.refl _ _ | exact HB4.out | refine below_drewN ?_ _ | refine below_drew ?_))
            | go_keep)
            (first
            | (go_at_call 26; refine Calls.mono (HLK.out _ (by repeat (first | exact Below.refl _ _ | refine below_drewN ?_ _ | refine below_drew ?_))) ?_; rintro e w4 ⟨rfl, hb4⟩
               have HB4 : Hid (Below wr.heap.size wr w4) := (by first | exact of_drew hb4 | exact hb4)
               clear hb4 cA cY)
            | fail)
          go_wp2_with fail
          go_roundw
          case rel => exact ⟨r + 1, by go_num, by omega, xtrans2 HBz.out HB4.out⟩
          case measure => simp [intOf]; omega
        · have hk3' : ¬ (r : Int) < 3 := by omega
          go_wp2_with fail
          go_ret
          exact ⟨rfl, (HKF.out wr HBz.out).2.2⟩
end Go.Proofs.YtbblckcjedjbcaaGreatDoor.J
