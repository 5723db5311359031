import Derived.Test.YtbblckcjedjbcaaGreatDoorXRowsy
import Derived.Test.YtbblckcjedjbcaaGreatDoorJSame
import Derived.Test.YtbblckcjedjbcaaGreatDoorJPlayed2
namespace Go.Proofs.YtbblckcjedjbcaaGreatDoor.J
open Go.RowKit Go.ChangeShapes Go.WideShapes Go.ChangeAt
set_option linter.unusedVariables false
set_option linter.unusedSimpArgs false

theorem cg_of {H : Type} {enc : TypeId × Value → H} {W : World} {n : Nat} {cs : List Value} {y : DataW H × List MemPlace} (h : DataW.trod enc Tryz.prog W 0 (fun _ => true) true n 24 cs = some y) : ∃ x : Cg, cs = x.cs := by
  obtain ⟨xs, m, _, hx, hl, hxl, hf⟩ := DataW.trod_struct Tryz.underlying24 h
  rw [Tryz.cellsC9] at hl
  obtain ⟨c0, c1, c2, c3, rfl⟩ := li4 hl
  obtain ⟨x0, x1, x2, x3, rfl⟩ := li4 (l := xs) hxl
  obtain ⟨z0, q0, _⟩ := DataW.trod_int Tryz.underlying3 (hf 0 _ rfl)
  obtain ⟨z1, q1, _⟩ := DataW.trod_string Tryz.underlying9 (hf 1 _ rfl)
  obtain ⟨z2, q2, _⟩ := DataW.trod_string Tryz.underlying9 (hf 2 _ rfl)
  obtain ⟨z3, q3, _⟩ := DataW.trod_int Tryz.underlying3 (hf 3 _ rfl)
  simp [Tryz.cells3x, Tryz.cells9x] at q0 q1 q2 q3
  subst q0 q1 q2 q3
  exact ⟨⟨z0, z1, z2, z3⟩, rfl⟩
theorem chs9_of {H : Type} {enc : TypeId × Value → H} {W : World} {n : Nat} {v : Value} {y : DataW H × List MemPlace} (h : DataW.trod enc Tryz.prog W 0 (fun _ => true) true n 55 [v] = some y) :
    ∃ a c L, v = .slice a L.length c ∧ CsAt W a L ∧ L.length ≤ c ∧ L.length ≤ maxLen := by
  rcases Go.Deep.open_slice Tryz.underlying55 h with ⟨hcs, _⟩ | ⟨x, len, cap, m, n', D, Pl, hcs, _, hl, hm, hmm, _, hx⟩
  · have hv : v = .slice none 0 0 := by simpa using hcs
    subst hv
    exact ⟨none, 0, [], rfl, .inl rfl, Nat.zero_le _, Nat.zero_le _⟩
  · have hv : v = .slice (some x) len cap := by simpa using hcs
    subst hv
    have hmc : m = cap := by simpa using hmm
    subst hmc
    have each : ∀ i, i < len → ∃ s : Cg, ∀ j x', s.cs[j]? = some x' → W.cell? ((x.add (i * 4)).add j) = some x' := by
      intro i hi
      obtain ⟨cs', h1, h2⟩ := hx i (by omega)
      obtain ⟨s, rfl⟩ := cg_of h2
      rw [Tryz.cellsC9] at h1
      obtain ⟨_, _, hc⟩ := World.cells?_some h1
      exact ⟨s, fun j x' hj => by rw [hc j (by have := (List.getElem?_eq_some_iff.1 hj).1; simpa using this)]; exact hj⟩
    obtain ⟨l, hll, hls⟩ := listsOf len each
    subst hll
    refine ⟨some x, m, l, rfl, ?_, hl, Nat.le_trans hl hm⟩
    by_cases h0 : l = []
    · exact .inl h0
    · right
      obtain ⟨b, o, spot⟩ := x
      obtain ⟨s0, hs0⟩ : ∃ s, l[0]? = some s := ⟨l[0]'(List.length_pos_iff.2 h0), List.getElem?_eq_getElem _⟩
      have hc0 := hls 0 s0 hs0 0 _ rfl
      have hspot : spot = none := by simpa [Addr.add] using World.cell?_spot hc0
      subst hspot
      refine ⟨b, o, rfl, ?_, fun i j s x' hi hj => ?_⟩
      · have := World.block_lt_of_cell? _ _ hc0
        simpa [Addr.add] using this
      · have := hls i s hi j x' hj
        rw [addr_add, addr_add, Nat.add_assoc] at this
        exact this
end Go.Proofs.YtbblckcjedjbcaaGreatDoor.J
namespace Go.Proofs.YtbblckcjedjbcaaGreatDoor.J
open Go.RowKit Go.Maps
set_option linter.unusedVariables false
set_option linter.unusedSimpArgs false

set_option maxHeartbeats 6400000 in
set_option maxRecDepth 100000 in
theorem lookN (X : Nat) (a : AcT) (w : World) (hg : Ground w) (hx : XBx w X) :
    Calls Tryz.prog 26 #[.pointer none, .pointer (some ⟨X, 0, none⟩), a.val] w fun e w' => e = .returned (.bool true) ∧ Below w.heap.size w w' := by
  obtain ⟨K, s, i, p, k, f⟩ := a
  have HG : Hid (Ground w) := hg
  have HX : Hid (XBx w X) := hx
  obtain ⟨w0, hw0⟩ : ∃ w0, w.alloc (.cells #[.int .i64 K, .int .i64 s, .int .i64 i, .string p, .int .i64 k, .int .i64 f] 72) = w0 := ⟨_, rfl⟩
  have HB0 : Hid (Below w.heap.size w w0) := by rw [← hw0]; exact (Below.refl _ _).alloc (Nat.le_refl _) _
  have hb0 : w0.heap[w.heap.size]? = some (.cells #[.int .i64 K, .int .i64 s, .int .i64 i, .string p, .int .i64 k, .int .i64 f] 72 (0, 0)) := by rw [← hw0]; exact heap_alloc_new _ _
  have HSZ : Hid (w0.heap.size = w.heap.size + 1) := by show _ = _; rw [← hw0]; simp
  obtain ⟨w1, hw1⟩ : ∃ w1, w0.alloc (.cells #[.int .i64 4, .int .i64 0, .int .i64 i, .string p, .int .i64 k, .int .i64 f] 72) = w1 := ⟨_, rfl⟩
  have HB1 : Hid (Below w.heap.size w w1) := by rw [← hw1]; exact HB0.out.alloc HB0.out.size _
  have HA1 : Hid (w1.heap[w.heap.size]? = some (.cells #[.int .i64 K, .int .i64 s, .int .i64 i, .string p, .int .i64 k, .int .i64 f] 72 (0, 0))) := by show _ = _; rw [← hw1]; exact new_old hb0 _
  have HD1 : Hid (w1.heap[w.heap.size + 1]? = some (.cells #[.int .i64 4, .int .i64 0, .int .i64 i, .string p, .int .i64 k, .int .i64 f] 72 (0, 0))) := by show _ = _; rw [← hw1, ← HSZ.out]; exact heap_alloc_new _ _
  obtain ⟨a0, a1, a2, a3, a4, a5⟩ := cells_6 hb0
  have HW : Hid (w.alloc (.cells #[.int .i64 K, .int .i64 s, .int .i64 i, .string p, .int .i64 k, .int .i64 f] 72) = w0) := hw0
  have HW1 : Hid (w0.alloc (.cells #[.int .i64 4, .int .i64 0, .int .i64 i, .string p, .int .i64 k, .int .i64 f] 72) = w1) := hw1
  clear hb0 hw1 hg hx
  go_enter Tryz.func26, Tryz.ntmps26
  rw [← hw0] at a0 a1 a2 a3 a4 a5
  clear hw0
  go_wp2_with fail
  rw [HW.out, HW1.out]
  clear a0 a1 a2 a3 a4 a5
  go_loopw [8] (fun iv wr => ∃ q : Nat, iv = .int .i64 q ∧ 5 ≤ q ∧ q ≤ 8 ∧ Hid (Below w1.heap.size w1 wr)) (fun iv _ => 8 - (intOf iv).toNat)
  case atStart => exact ⟨5, rfl, by decide, by decide, Below.refl _ _⟩
  case round =>
    obtain ⟨q, rfl, hq5, hq8, HBr⟩ := hrel
    by_cases hlt : q < 8
    · have hlt' : (q : Int) ≤ 7 := by omega
      obtain ⟨a0, a1, a2, a3, a4, a5⟩ := cells_6 (kept_block HBr.out HA1.out)
      have HP : Hid _ := playN X ⟨q, s, 0, ⟨#[]⟩, 0, 0⟩ wr (HG.out.below (xtrans2 HB1.out HBr.out)) (kept_block (xtrans2 HB1.out HBr.out) HX.out)
      go_wp2_with (first
        | (go_at_call 25; refine Calls.mono HP.out ?_; rintro e w2 ⟨rfl, hb2⟩
           have HB2 : Hid (Below w1.heap.size w1 w2) := xtrans2 HBr.out hb2
           clear hb2 a0 a1 a2 a3 a4 a5)
        | fail)
      go_roundw
      case rel => exact ⟨q + 1, by go_num, by omega, by omega, HB2⟩
      case measure => simp [intOf]; omega
    · have hge : ¬ (q : Int) ≤ 7 := by omega
      obtain ⟨w3, hw3⟩ : ∃ w3, wr = w3 := ⟨_, rfl⟩
      subst hw3
      have HB3 : Hid (Below w.heap.size w wr) := xtrans2 HB1.out HBr.out
      have HD3 : Hid (wr.heap[w.heap.size + 1]? = some (.cells #[.int .i64 4, .int .i64 0, .int .i64 i, .string p, .int .i64 k, .int .i64 f] 72 (0, 0))) := kept_block HBr.out HD1.out
      clear hq5 hq8 hlt HBr
      go_wp2_with fail
      go_loopw [10] (fun iv wq => ∃ (r : Nat) (kv : Int), iv = .int .i64 r ∧ 1 ≤ r ∧ r ≤ 4 ∧ Hid (Below w.heap.size w wq) ∧ Hid (wq.heap[w.heap.size + 1]? = some (.cells #[.int .i64 4, .int .i64 0, .int .i64 i, .string p, .int .i64 kv, .int .i64 f] 72 (0, 0)))) (fun iv _ => 4 - (intOf iv).toNat)
      case atStart => exact ⟨1, k, rfl, by decide, by decide, HB3, HD3⟩
      case round =>
        obtain ⟨r, kv, rfl, hq1, hq4, HBq, HDq⟩ := hrel
        by_cases hlt : r < 4
        · have hlt' : (r : Int) ≤ 3 := by omega
          obtain ⟨d0, d1, d2, d3, d4, d5⟩ := cells_6 HDq.out
          have fd := free_of HDq.out
          go_upto_region 12 with fail
          clear d0 d1 d2 d3 d4 d5 fd
          obtain ⟨w5, hw5⟩ : ∃ z, wr.setCell ⟨w.heap.size + 1, 4, none⟩ (.int .i64 r) = z := ⟨_, rfl⟩
          have HB5 : Hid (Below w.heap.size w w5) := by rw [← hw5]; exact HBq.out.setCell (Nat.le_succ _) _
          have HD5 : Hid (w5.heap[w.heap.size + 1]? = some (.cells #[.int .i64 4, .int .i64 0, .int .i64 i, .string p, .int .i64 r, .int .i64 f] 72 (0, 0))) := by show _ = _; rw [← hw5]; exact same_blk HDq.out rfl
          rw [hw5]
          clear hw5
          obtain ⟨d0, d1, d2, d3, d4, d5⟩ := cells_6 HD5.out
          have HP : Hid _ := playN X ⟨4, 0, i, p, r, f⟩ w5 (HG.out.below HB5.out) (kept_block HB5.out HX.out)
          go_wp2_with (first
            | (go_at_call 25; refine Calls.mono HP.out ?_; rintro e w2 ⟨rfl, hb2⟩
               have HB6 : Hid (Below w.heap.size w w2) := xtrans2 HB5.out hb2
               have HD6 : Hid (w2.heap[w.heap.size + 1]? = some (.cells #[.int .i64 4, .int .i64 0, .int .i64 i, .string p, .int .i64 r, .int .i64 f] 72 (0, 0))) := kept_block hb2 HD5.out
               clear hb2 d0 d1 d2 d3 d4 d5)
            | fail)
          go_roundw
          case rel => exact ⟨r + 1, _, by go_num, by omega, by omega, HB6, HD6⟩
          case measure => simp [intOf]; omega
        · have hge2 : ¬ (r : Int) ≤ 3 := by omega
          go_wp2_with fail
          go_ret
          exact ⟨rfl, HBq.out⟩
/-- Acts in memory. -/
abbrev AcT.cl (a : AcT) : List Value := [.int .i64 a.K, .int .i64 a.s, .int .i64 a.i, .string a.p, .int .i64 a.k, .int .i64 a.f]
def AcAt (w : World) (a : Option Addr) (L : List AcT) : Prop := L = [] ∨ ∃ b o, a = some ⟨b, o, none⟩ ∧ b < w.heap.size ∧ ∀ (j t : Nat) (x : AcT) (v : Value), L[j]? = some x → x.cl[t]? = some v → w.cell? ⟨b, o + (j * 6 + t), none⟩ = some v
theorem AcAt.below {w w' : World} {a : Option Addr} {L : List AcT} (h : AcAt w a L) (hb : Below w.heap.size w w') : AcAt w' a L := by
  rcases h with h | ⟨b, o, e, hl, hc⟩
  · exact .inl h
  · exact .inr ⟨b, o, e, Nat.lt_of_lt_of_le hl hb.size, fun j t x v hx hv => by rw [hb.cell (p := ⟨b, o + (j * 6 + t), none⟩) hl]; exact hc j t x v hx hv⟩
theorem AcAt.at {w : World} {a : Option Addr} {L : List AcT} (h : AcAt w a L) {j : Nat} {x : AcT} (hx : L[j]? = some x) : ∃ b o, a = some ⟨b, o, none⟩ ∧ w.cell? ⟨b, o + j * 6, none⟩ = some (.int .i64 x.K) ∧ w.cell? ⟨b, o + j * 6 + 1, none⟩ = some (.int .i64 x.s) ∧ w.cell? ⟨b, o + j * 6 + 2, none⟩ = some (.int .i64 x.i) ∧ w.cell? ⟨b, o + j * 6 + 3, none⟩ = some (.string x.p) ∧ w.cell? ⟨b, o + j * 6 + 4, none⟩ = some (.int .i64 x.k) ∧ w.cell? ⟨b, o + j * 6 + 5, none⟩ = some (.int .i64 x.f) := by
  rcases h with rfl | ⟨b, o, e, hl, hc⟩
  · simp at hx
  · exact ⟨b, o, e, hc j 0 x _ hx rfl, hc j 1 x _ hx rfl, hc j 2 x _ hx rfl, hc j 3 x _ hx rfl, hc j 4 x _ hx rfl, hc j 5 x _ hx rfl⟩
set_option maxHeartbeats 6400000 in
set_option maxRecDepth 100000 in
theorem TrieOfNothing_walk (a : Option Addr) (c : Nat) (L : List AcT) (w : World) (hL : AcAt w a L) (hlen : (L.length : Int) ≤ 9223372036854775807) (hg : Ground w) :
    Calls Tryz.prog 8 #[.slice a L.length c] w fun e w' => e = .returned (.bool true) ∧ Below w.heap.size w w' := by
  have HL : Hid (AcAt w a L) := hL
  have HG : Hid (Ground w) := hg
  obtain ⟨m, hm⟩ : ∃ m, L.length = m := ⟨_, rfl⟩
  have HM : Hid (L.length = m) := hm
  rw [hm] at hlen ⊢
  clear hL hg hm
  go_enter Tryz.func8, Tryz.ntmps8
  go_wp2_with (first
    | (go_at_call 9; refine (begins_any w HG.out).mono ?_; rintro e w1 ⟨rfl, hb1⟩
       have HB1 : Hid (Below w.heap.size w w1) := hb1
       clear hb1)
    | fail)
  obtain ⟨w2, hw2⟩ : ∃ w2, w1.alloc (.cells #[.bool true, .slice none 0 0] 69) = w2 := ⟨_, rfl⟩
  have HB2 : Hid (Below w.heap.size w w2) := by rw [← hw2]; exact HB1.out.alloc HB1.out.size _
  have HX2 : Hid (XBx w2 w1.heap.size) := by show XBx _ _; rw [← hw2]; exact heap_alloc_new _ _
  rw [hw2]
  obtain ⟨X, hX⟩ : ∃ X, w1.heap.size = X := ⟨_, rfl⟩
  rw [hX] at HX2 ⊢
  clear hw2 hX
  go_loopw [6] (fun iv wr => ∃ q : Nat, iv = .int .i64 q ∧ q ≤ m ∧ q ≤ 120 ∧ Hid (Below w2.heap.size w2 wr)) (fun iv _ => m - (intOf iv).toNat)
  case atStart => exact ⟨0, rfl, Nat.zero_le _, Nat.zero_le _, Below.refl _ _⟩
  case round =>
    obtain ⟨q, rfl, hqm, hq120, HBr⟩ := hrel
    by_cases hlt : q < m
    · have hlt' : (q : Int) < (m : Int) := by omega
      by_cases h120 : q < 120
      · have h120' : (q : Int) < 120 := by omega
        obtain ⟨x, hx⟩ : ∃ x, L[q]? = some x := ⟨L[q]'(by rw [HM.out]; exact hlt), List.getElem?_eq_getElem _⟩
        have HQ : Hid (L[q]? = some x) := hx
        have HBW : Hid (Below w.heap.size w wr) := xtrans2 HB2.out HBr.out
        have HXr : Hid (XBx wr X) := kept_block HBr.out HX2.out
        obtain ⟨b, o, rfl, n0, n1, n2, n3, n4, n5⟩ := (HL.out.below HBW.out).at hx
        have HP : Hid _ := playN X x wr (HG.out.below HBW.out) HXr.out
        have HK : Hid (∀ W, Below wr.heap.size wr W → _) := fun W hb => lookN X x W (HG.out.below (xtrans2 HBW.out hb)) (kept_block hb HXr.out)
        clear hx
        go_wp2_with (first
          | (go_at_call 25; refine Calls.mono HP.out ?_; rintro e w3 ⟨rfl, hb3⟩
             have HB3 : Hid (Below wr.heap.size wr w3) := hb3
             clear n0 n1 n2 n3 n4 n5 hb3
             obtain ⟨b', o', he, n0, n1, n2, n3, n4, n5⟩ := (HL.out.below (xtrans2 HBW.out HB3.out)).at HQ.out
             simp only [Option.some.injEq, Addr.mk.injEq, and_true] at he
             obtain ⟨rfl, rfl⟩ := he)
          | (go_at_call 26; refine Calls.mono (HK.out _ HB3.out) ?_; rintro e w4 ⟨rfl, hb4⟩
             have HB4 : Hid (Below wr.heap.size wr w4) := xtrans2 HB3.out hb4
             clear n0 n1 n2 n3 n4 n5 hb4)
          | fail)
        go_roundw
        case rel => exact ⟨q + 1, by go_num, by omega, by omega, xtrans2 HBr.out HB4.out⟩
        case measure => simp [intOf]; omega
      · have h120' : ¬ (q : Int) < 120 := by omega
        have HSN : Hid (∀ W, _) := fun W => sizeNil W
        go_wp2_with (first | (go_at_call 27; refine Calls.mono (HSN.out _) ?_; rintro e w5 ⟨rfl, rfl⟩) | fail)
        go_ret
        exact ⟨rfl, xtrans2 HB2.out HBr.out⟩
    · have hlt' : ¬ (q : Int) < (m : Int) := by omega
      have HSN : Hid (∀ W, _) := fun W => sizeNil W
      go_wp2_with (first | (go_at_call 27; refine Calls.mono (HSN.out _) ?_; rintro e w5 ⟨rfl, rfl⟩) | fail)
      go_ret
      exact ⟨rfl, xtrans2 HB2.out HBr.out⟩
end Go.Proofs.YtbblckcjedjbcaaGreatDoor.J
