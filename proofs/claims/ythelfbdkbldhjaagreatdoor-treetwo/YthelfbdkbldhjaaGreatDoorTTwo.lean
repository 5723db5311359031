/-
  tree: two trees in turns.
-/
import Derived.Test.YthelfbdkbldhjaaGreatDoorTOnly
namespace Go.Proofs.YthelfbdkbldhjaaGreatDoor
open Go.RowKit Go.Maps Go.WideShapes
set_option linter.unusedVariables false
set_option linter.unusedSimpArgs false

/-- Two trees of the program and two of the document, and one desk. -/
structure Du (W w : World) (db tb q ub q' : Nat) (dv : Value) (a : Option Addr) (T : List Nd) (b : Option Addr) (U : List Nd) : Prop where
  s1 : Sit W w db tb q dv a T
  s2 : Sit W w db ub q' dv b U
  ne : tb ≠ ub
theorem Du.swap {W w : World} {db tb q ub q' : Nat} {dv : Value} {a : Option Addr} {T : List Nd} {b : Option Addr} {U : List Nd} (h : Du W w db tb q ub q' dv a T b U) : Du W w db ub q' tb q dv b U a T := ⟨h.s2, h.s1, fun e => h.ne e.symm⟩
theorem Du.below {W w w' : World} {db tb q ub q' : Nat} {dv : Value} {a : Option Addr} {T : List Nd} {b : Option Addr} {U : List Nd} (h : Du W w db tb q ub q' dv a T b U) (hb : Below w.heap.size w w') : Du W w' db tb q ub q' dv a T b U := ⟨h.s1.below hb, h.s2.below hb, h.ne⟩
theorem Du.set {W w : World} {db tb q ub q' z : Nat} {dv v : Value} {a : Option Addr} {T : List Nd} {b : Option Addr} {U : List Nd} {cs : Array Value} (h : Du W w db tb q ub q' dv a T b U) (hb : w.heap[z]? = some (.cells cs 27 (0, 0))) (hW : W.heap.size ≤ z) : Du W (w.setCell ⟨z, 0, none⟩ v) db tb q ub q' dv a T b U := ⟨h.s1.set hb hW, h.s2.set hb hW, h.ne⟩
/-- A step on the first. -/
theorem Du.step {W w w' : World} {db tb q ub q' tb2 q2 : Nat} {dv dv2 : Value} {a a2 : Option Addr} {T T2 : List Nd} {b : Option Addr} {U : List Nd} (h : Du W w db tb q ub q' dv a T b U) (hs : Sit W w' db tb2 q2 dv2 a2 T2) (hc : Chg w w' (fun k => k = tb ∨ k = db ∨ dv.ownBlock = some k)) (ht : tb2 = tb ∨ w.heap.size ≤ tb2) : Du W w' db tb2 q2 ub q' dv2 a2 T2 b U := by
  obtain ⟨tv, htb⟩ := h.s1.tr.box
  obtain ⟨hd, _, n, xs, hr⟩ := h.s1.desk
  have hkd : ∀ k, (k = tb ∨ k = db ∨ dv.ownBlock = some k) → (k = tb ∧ w.heap[k]? = some (.cells #[tv] 49 (0, 0))) ∨ ∃ cur t, (t = 32 ∨ t = 63) ∧ w.heap[k]? = some (.cells cur t (0, 0)) := fun k e => by
    rcases e with rfl | rfl | e
    · exact .inl ⟨rfl, htb⟩
    · exact .inr ⟨_, _, .inl rfl, hd⟩
    · obtain ⟨cur, h9⟩ := owns_kind hr e
      exact .inr ⟨cur, _, .inr rfl, h9⟩
  refine ⟨hs, ⟨hs.low, hs.desk, h.s2.tr.chg hc (fun k e => ?_), h.s2.nds.chg hc (fun k e cur hk => ?_), h.s2.rng⟩, ?_⟩
  · rcases hkd k e with ⟨rfl, h9⟩ | ⟨cur, t, ht', h9⟩
    · exact .inr ⟨h.ne, _, _, h9⟩
    · exact .inl ⟨cur, t, by rcases ht' with rfl | rfl <;> decide, h9⟩
  · rcases hkd k e with ⟨rfl, h9⟩ | ⟨cur', t, ht', h9⟩
    · rw [hk] at h9
      simp at h9
    · rw [hk] at h9
      simp at h9
      rcases ht' with ht' | ht'
      · rw [ht'] at h9
        exact absurd h9.2 (by decide)
      · rw [ht'] at h9
        exact absurd h9.2 (by decide)
  · rcases ht with rfl | ht
    · exact h.ne
    · have := h.s2.tr.lt
      omega
set_option maxHeartbeats 16000000 in
set_option maxRecDepth 100000 in
theorem TreeTwo_walk (W : World) (a : Option Addr) (c : Nat) (l : List StT) (hl : l.length ≤ maxLen) (hs : Steps W a l) (hol : ∀ x ∈ l, x.os.length ≤ 2513169434846) (hg : GroundT W) (hgc : GroundC W) :
    Calls Tryz.prog 3 #[.slice a l.length c] W fun e w' => e = .returned (.bool true) ∧ Below W.heap.size W w' := by
  unfold maxLen at hl
  have HS : Hid (Steps W a l) := hs
  have HOLA : Hid _ := hol
  have HG : Hid (GroundT W) := hg
  have HGC : Hid (GroundC W) := hgc
  obtain ⟨N, hN⟩ : ∃ N, l.length = N := ⟨_, rfl⟩
  have HN : Hid (l.length = N) := hN
  rw [hN] at hl ⊢
  clear hs hg hgc hol hN
  go_enter Tryz.func3, Tryz.ntmps3
  go_wp2_with fail
  refine Calls.mono (new_tr W) ?_
  rintro e w1 ⟨tb0, rfl, ht1, hb1⟩
  have HT1 : Hid (TrAt w1 W.heap.size tb0 0 [rootN]) := ht1
  have HB1 : Hid (Below W.heap.size W w1) := hb1
  clear ht1 hb1
  go_wp2_with fail
  refine Calls.mono (new_tr w1) ?_
  rintro e w2 ⟨ub0, rfl, ht2, hb2⟩
  have HU2 : Hid (TrAt w2 W.heap.size ub0 0 [rootN]) := ht2.base HB1.out.size
  have HNE : Hid (tb0 ≠ ub0) := by
    have h1 := HT1.out.lt
    have h2 := ht2.lo
    show tb0 ≠ ub0
    omega
  have HT2 : Hid (TrAt w2 W.heap.size tb0 0 [rootN]) := HT1.out.below hb2
  have HB2 : Hid (Below W.heap.size W w2) := trans2 HB1.out hb2
  clear ht2 hb2
  go_wp2_with fail
  refine Calls.mono (refNew_any w2) ?_
  rintro e w3 ⟨g3, rfl, hn3, hb3⟩
  have HT3 : Hid (TrAt w3 W.heap.size tb0 0 [rootN]) := HT2.out.below hb3
  have HU3 : Hid (TrAt w3 W.heap.size ub0 0 [rootN]) := HU2.out.below hb3
  have HN3 : Hid (NdsAt w3 (some ⟨g3, 0, none⟩) [rootN]) := hn3
  have HB3 : Hid (Below W.heap.size W w3) := trans2 HB2.out hb3
  clear hn3 hb3
  go_upto_region 4 with fail
  obtain ⟨w4, hw4⟩ : ∃ y, w3.alloc (.cells #[.slice (some ⟨g3, 0, none⟩) 1 1] 27) = y := ⟨_, rfl⟩
  obtain ⟨vb, hvb⟩ : ∃ y, w3.heap.size = y := ⟨_, rfl⟩
  have hb4 : Below w3.heap.size w3 w4 := by rw [← hw4]; exact (Below.refl _ _).alloc (Nat.le_refl _) _
  have HT4 : Hid (TrAt w4 W.heap.size tb0 0 [rootN]) := HT3.out.below hb4
  have HU4 : Hid (TrAt w4 W.heap.size ub0 0 [rootN]) := HU3.out.below hb4
  have HN4 : Hid (NdsAt w4 (some ⟨g3, 0, none⟩) [rootN]) := HN3.out.below hb4
  have HB4 : Hid (Below W.heap.size W w4) := trans2 HB3.out hb4
  have HV4 : Hid (w4.heap[vb]? = some (.cells #[.slice (some ⟨g3, 0, none⟩) [rootN].length 1] 27 (0, 0))) := by rw [← hw4, ← hvb]; exact heap_alloc_new _ _
  have HVW : Hid (W.heap.size ≤ vb) := by rw [← hvb]; exact HB3.out.size
  rw [hw4, hvb]
  clear hw4 hvb hb4
  go_wp2_with fail
  refine Calls.mono (refNew_any w4) ?_
  rintro e w5 ⟨g5, rfl, hn5, hb5⟩
  have HT5 : Hid (TrAt w5 W.heap.size tb0 0 [rootN]) := HT4.out.below hb5
  have HU5 : Hid (TrAt w5 W.heap.size ub0 0 [rootN]) := HU4.out.below hb5
  have HN5 : Hid (NdsAt w5 (some ⟨g3, 0, none⟩) [rootN]) := HN4.out.below hb5
  have HM5 : Hid (NdsAt w5 (some ⟨g5, 0, none⟩) [rootN]) := hn5
  have HB5 : Hid (Below W.heap.size W w5) := trans2 HB4.out hb5
  have HV5 : Hid _ := kept_block hb5 HV4.out
  clear hn5 hb5
  go_upto_region 8 with fail
  obtain ⟨w6, hw6⟩ : ∃ y, (w5.alloc (.cells #[.slice (some ⟨g5, 0, none⟩) 1 1] 27)).alloc (.cells #[.slice none 0 0] 32) = y := ⟨_, rfl⟩
  obtain ⟨xb, hxb⟩ : ∃ y, w5.heap.size = y := ⟨_, rfl⟩
  have hb6 : Below w5.heap.size w5 w6 := by rw [← hw6]; exact ((Below.refl _ _).alloc (Nat.le_refl _) _).alloc (by simp) _
  have HV6 : Hid (w6.heap[vb]? = some (.cells #[.slice (some ⟨g3, 0, none⟩) [rootN].length 1] 27 (0, 0))) := kept_block hb6 HV5.out
  have HX6 : Hid (w6.heap[xb]? = some (.cells #[.slice (some ⟨g5, 0, none⟩) [rootN].length 1] 27 (0, 0))) := by rw [← hw6, ← hxb]; exact heap_alloc2_old _ _ _
  have HD6 : Hid (DeskAt w6 W.heap.size (xb + 1) (.slice none 0 0)) := ⟨by rw [← hw6, ← hxb]; exact heap_alloc2_new _ _ _, by rw [← hxb]; have := HB5.out.size; omega, 0, [], World.ownsRow_nil _ _ _ _⟩
  have HDU6 : Hid (Du W w6 (xb + 1) tb0 0 ub0 0 (.slice none 0 0) (some ⟨g3, 0, none⟩) [rootN] (some ⟨g5, 0, none⟩) [rootN]) := ⟨⟨trans2 HB5.out hb6, HD6.out, HT5.out.below hb6, HN5.out.below hb6, rng_new⟩, ⟨trans2 HB5.out hb6, HD6.out, HU5.out.below hb6, HM5.out.below hb6, rng_new⟩, HNE.out⟩
  have HXW : Hid (W.heap.size ≤ xb ∧ vb < xb) := by
    rw [← hxb]
    exact ⟨HB5.out.size, (Array.getElem?_eq_some_iff.1 HV5.out).1⟩
  rw [hw6, hxb]
  clear hw6 hxb hb6
  go_wp2_with fail
  go_loopw [3, 4, 8] (fun t u i wr => ∃ (p tb q ub q' : Nat) (dv : Value) (a' : Option Addr) (c' : Nat) (T : List Nd) (b' : Option Addr) (d' : Nat) (U : List Nd), t = .pointer (some ⟨tb, 0, none⟩) ∧ u = .pointer (some ⟨ub, 0, none⟩) ∧ i = .int .i64 p ∧ p ≤ N ∧ p ≤ 120 ∧ q ≤ 8 + p ∧ q' ≤ 8 + p ∧ Hid (Du W wr (xb + 1) tb q ub q' dv a' T b' U) ∧ Hid (wr.heap[vb]? = some (.cells #[.slice a' T.length c'] 27 (0, 0))) ∧ Hid (wr.heap[xb]? = some (.cells #[.slice b' U.length d'] 27 (0, 0)))) (fun _ _ i _ => N - (intOf i).toNat)
  case atStart => exact ⟨0, tb0, 0, ub0, 0, _, _, 1, [rootN], _, 1, [rootN], rfl, rfl, rfl, Nat.zero_le _, Nat.zero_le _, Nat.zero_le _, Nat.zero_le _, HDU6.out, HV6.out, HX6.out⟩
  case round =>
    obtain ⟨p, tb, q, ub, q', dv, a', c', T, b', d', U, rfl, rfl, rfl, hp, hp120, hq, hq', HDr, HVr, HXr⟩ := hrel
    have HBr : Hid (Below W.heap.size W wr) := HDr.out.s1.low
    by_cases hlt : p < N
    · have hlt' : (p : Int) < (N : Int) := by omega
      by_cases h120 : (p : Int) < 120
      · obtain ⟨x, hx⟩ : ∃ x, l[p]? = some x := ⟨l[p]'(by rw [HN.out]; exact hlt), List.getElem?_eq_getElem _⟩
        obtain ⟨b, f, rfl, hbl, hcs, ho, hok⟩ := HS.out p x hx
        have HOO : Hid (OpsAt W W.heap.size x.a x.os ∧ (∀ o ∈ x.os, o.Ok) ∧ x.os.length ≤ 2513169434846) := ⟨ho, hok, HOLA.out x (List.mem_of_getElem? hx)⟩
        have hcell : ∀ w', Below W.heap.size W w' → ∀ j v, x.cells[j]? = some v → w'.cell? ⟨b, f + p * 6 + j, none⟩ = some v := fun w' hb j v hv => by rw [hb.cell (p := ⟨b, f + p * 6 + j, none⟩) hbl]; exact hcs j v hv
        have HCE : Hid _ := hcell
        have k0 : wr.cell? ⟨b, f + p * 6, none⟩ = some (.int .i64 x.k) := hcell wr HBr.out 0 _ rfl
        have k1 := hcell wr HBr.out 1 _ rfl
        have k2 := hcell wr HBr.out 2 _ rfl
        have k3 := hcell wr HBr.out 3 _ rfl
        have k4 := hcell wr HBr.out 4 _ rfl
        have k5 := hcell wr HBr.out 5 _ rfl
        have hbw : b < wr.heap.size := Nat.lt_of_lt_of_le hbl HBr.out.size
        clear hcell hcs hx ho hok
        go_upto_region 13 with fail
        obtain ⟨z, hz⟩ : ∃ z, wrap64 (x.nn.tdiv 2) = z := ⟨_, rfl⟩
        obtain ⟨ON, hON⟩ : ∃ y, x.os.length = y := ⟨_, rfl⟩
        have HON : Hid (x.os.length = ON) := hON
        simp only [hz, hON]
        obtain ⟨w7, hw7⟩ : ∃ y, wr.alloc (.cells #[.int .i64 x.k, .int .i64 x.s, .int .i64 x.st, .slice x.a ON x.c, .string x.pl, .int .i64 z] 34) = y := ⟨_, rfl⟩
        obtain ⟨sb, hsb⟩ : ∃ y, wr.heap.size = y := ⟨_, rfl⟩
        have hb7 : Below wr.heap.size wr w7 := by rw [← hw7]; exact (Below.refl _ _).alloc (Nat.le_refl _) _
        have HD7 : Hid (Du W w7 (xb + 1) tb q ub q' dv a' T b' U) := HDr.out.below hb7
        have HV7 : Hid _ := kept_block hb7 HVr.out
        have HX7 : Hid _ := kept_block hb7 HXr.out
        have HP7 : Hid (w7.heap[sb]? = some (.cells #[.int .i64 x.k, .int .i64 x.s, .int .i64 x.st, .slice x.a ON x.c, .string x.pl, .int .i64 z] 34 (0, 0))) := by rw [← hw7, ← hsb]; exact heap_alloc_new _ _
        rw [hw7, hsb]
        clear hw7 hsb hb7 hz hON k0 k1 k2 k3 k4 k5
        have k0 : w7.cell? ⟨b, f + p * 6, none⟩ = some (.int .i64 x.k) := HCE.out w7 HD7.out.s1.low 0 _ rfl
        have k1 := HCE.out w7 HD7.out.s1.low 1 _ rfl
        have k2 := HCE.out w7 HD7.out.s1.low 2 _ rfl
        have k3 := HCE.out w7 HD7.out.s1.low 3 _ rfl
        have k4 := HCE.out w7 HD7.out.s1.low 4 _ rfl
        have k5 := HCE.out w7 HD7.out.s1.low 5 _ rfl
        obtain ⟨s0, s1, s2, s3, s4, s5⟩ := cells_6 HP7.out
        have v0 := cells_1 HV7.out
        have x0 := cells_1 HX7.out
        by_cases hm : (x.nn.tmod 2 == 0) = true
        · obtain ⟨TN, hTN⟩ : ∃ y, T.length = y := ⟨_, rfl⟩
          have HTN : Hid (T.length = TN) := hTN
          rw [hTN] at v0
          clear hTN
          have HPL : Hid (Calls Tryz.prog 11 #[.pointer (some ⟨tb, 0, none⟩), rtV a' TN c', .agg #[.int .i64 x.k, .int .i64 x.s, .int .i64 x.st, .slice x.a ON x.c, .string x.pl, .int .i64 z], .pointer (some ⟨xb + 1, 0, none⟩)] w7 (PlE W w7 (xb + 1) tb q dv (runS T ⟨x.k, x.s, x.st, x.a, x.c, x.os, x.pl, z⟩))) := by
            have h9 := ply_any W w7 (xb + 1) tb q dv a' c' T (HD7.out).s1 HG.out HGC.out (by omega) ⟨x.k, x.s, x.st, x.a, x.c, x.os, x.pl, z⟩ HOO.out.1 HOO.out.2.1 HOO.out.2.2
            rw [HTN.out, HON.out] at h9
            exact h9
          obtain ⟨T2, hT2⟩ : ∃ y, runS T ⟨x.k, x.s, x.st, x.a, x.c, x.os, x.pl, z⟩ = y := ⟨_, rfl⟩
          rw [hT2] at HPL
          clear hT2
          go_wp2_with fail
          refine Calls.mono HPL.out ?_
          rintro e w8 ⟨tb8, q8, dv8, a8, c8, rfl, hs8, hq8, hc8, ht8⟩
          have HD8 : Hid (Du W w8 (xb + 1) tb8 q8 ub q' dv8 a8 T2 b' U) := (HD7.out).step hs8 hc8 ht8
          have HV8 : Hid (w8.heap[vb]? = some (.cells #[.slice a' T.length c'] 27 (0, 0))) := PlE.keep (HD7.out).s1 hc8 HV7.out
          have HO8 : Hid (w8.heap[xb]? = some (.cells #[.slice b' U.length d'] 27 (0, 0))) := PlE.keep (HD7.out).s1 hc8 HX7.out
          clear hs8 hc8 ht8 k0 k1 k2 k3 k4 k5 v0 x0 s0 s1 s2 s3 s4 s5
          have v0 := cells_1 HV8.out
          have vf := free_1 HV8.out
          obtain ⟨TN2, hTN2⟩ : ∃ y, T2.length = y := ⟨_, rfl⟩
          have HTN2 : Hid (T2.length = TN2) := hTN2
          simp only [hTN2]
          clear hTN2
          go_wp2_with fail
          go_roundw
          case rel => exact ⟨p + 1, tb8, q8, ub, q', dv8, a8, c8, T2, b', d', U, rfl, rfl, by go_num, by omega, by omega, by omega, by omega, HD8.out.set HV8.out HVW.out, by show _ = _; rw [HTN2.out]; exact same_blk HV8.out rfl, other_blk HO8.out (by have := HXW.out.2; omega)⟩
          case measure => simp [intOf]; omega
        · have hm : (x.nn.tmod 2 == 0) = false := by simpa using hm
          obtain ⟨TN, hTN⟩ : ∃ y, U.length = y := ⟨_, rfl⟩
          have HTN : Hid (U.length = TN) := hTN
          rw [hTN] at x0
          clear hTN
          have HPL : Hid (Calls Tryz.prog 11 #[.pointer (some ⟨ub, 0, none⟩), rtV b' TN d', .agg #[.int .i64 x.k, .int .i64 x.s, .int .i64 x.st, .slice x.a ON x.c, .string x.pl, .int .i64 z], .pointer (some ⟨xb + 1, 0, none⟩)] w7 (PlE W w7 (xb + 1) ub q' dv (runS U ⟨x.k, x.s, x.st, x.a, x.c, x.os, x.pl, z⟩))) := by
            have h9 := ply_any W w7 (xb + 1) ub q' dv b' d' U (HD7.out.swap).s1 HG.out HGC.out (by omega) ⟨x.k, x.s, x.st, x.a, x.c, x.os, x.pl, z⟩ HOO.out.1 HOO.out.2.1 HOO.out.2.2
            rw [HTN.out, HON.out] at h9
            exact h9
          obtain ⟨T2, hT2⟩ : ∃ y, runS U ⟨x.k, x.s, x.st, x.a, x.c, x.os, x.pl, z⟩ = y := ⟨_, rfl⟩
          rw [hT2] at HPL
          clear hT2
          go_wp2_with fail
          refine Calls.mono HPL.out ?_
          rintro e w8 ⟨tb8, q8, dv8, a8, c8, rfl, hs8, hq8, hc8, ht8⟩
          have HD8 : Hid (Du W w8 (xb + 1) tb8 q8 tb q dv8 a8 T2 a' T) := (HD7.out.swap).step hs8 hc8 ht8
          have HV8 : Hid (w8.heap[xb]? = some (.cells #[.slice b' U.length d'] 27 (0, 0))) := PlE.keep (HD7.out.swap).s1 hc8 HX7.out
          have HO8 : Hid (w8.heap[vb]? = some (.cells #[.slice a' T.length c'] 27 (0, 0))) := PlE.keep (HD7.out.swap).s1 hc8 HV7.out
          clear hs8 hc8 ht8 k0 k1 k2 k3 k4 k5 v0 x0 s0 s1 s2 s3 s4 s5
          have v0 := cells_1 HV8.out
          have vf := free_1 HV8.out
          obtain ⟨TN2, hTN2⟩ : ∃ y, T2.length = y := ⟨_, rfl⟩
          have HTN2 : Hid (T2.length = TN2) := hTN2
          simp only [hTN2]
          clear hTN2
          go_wp2_with fail
          go_roundw
          case rel => exact ⟨p + 1, tb, q, tb8, q8, dv8, a', c', T, a8, c8, T2, rfl, rfl, by go_num, by omega, by omega, by omega, by omega, (HD8.out.swap).set HV8.out HXW.out.1, other_blk HO8.out (by have := HXW.out.2; omega), by show _ = _; rw [HTN2.out]; exact same_blk HV8.out rfl⟩
          case measure => simp [intOf]; omega
      · skip
        go_wp2_with fail
        refine Calls.mono (nodes_tr W.heap.size tb q T wr HDr.out.s1.tr) ?_
        rintro e w7 ⟨g7, cap7, rfl, hr7, hb7⟩
        have HR7 : Hid (w7.ownsRow wr.heap.size 45 7 (.slice (some ⟨g7, 0, none⟩) T.length cap7) T.length (T.flatMap Nd.cs)) := hr7
        have HD7 : Hid (Du W w7 (xb + 1) tb q ub q' dv a' T b' U) := HDr.out.below hb7
        have HV7 : Hid _ := kept_block hb7 HVr.out
        have HX7 : Hid _ := kept_block hb7 HXr.out
        clear hr7 hb7
        go_wp2_with fail
        refine Calls.mono (nodes_tr W.heap.size ub q' U w7 HD7.out.s2.tr) ?_
        rintro e w8 ⟨g8, cap8, rfl, hr8, hb8⟩
        have HR8 : Hid (w8.ownsRow wr.heap.size 45 7 (.slice (some ⟨g7, 0, none⟩) T.length cap7) T.length (T.flatMap Nd.cs)) := owns_chg HR7.out (Chg.of_below hb8 (fun _ => False)) (fun _ _ => id)
        have HQ8 : Hid (w8.ownsRow w7.heap.size 45 7 (.slice (some ⟨g8, 0, none⟩) U.length cap8) U.length (U.flatMap Nd.cs)) := hr8
        have HD8 : Hid (Du W w8 (xb + 1) tb q ub q' dv a' T b' U) := HD7.out.below hb8
        have HV8 : Hid _ := kept_block hb8 HV7.out
        have HX8 : Hid _ := kept_block hb8 HX7.out
        have v0 := cells_1 HV8.out
        clear hr8 hb8
        go_wp2_with fail
        refine Calls.mono (refNodes_any a' c' T w8 HD8.out.s1.nds HD8.out.s1.tr.snd.inv.len) ?_
        rintro e w9 ⟨v9, rfl, hr9, hb9⟩
        have HD9 : Hid (Du W w9 (xb + 1) tb q ub q' dv a' T b' U) := HD8.out.below hb9
        have HX9 : Hid _ := kept_block hb9 HX8.out
        have HQ9 : Hid (w9.ownsRow w7.heap.size 45 7 (.slice (some ⟨g8, 0, none⟩) U.length cap8) U.length (U.flatMap Nd.cs)) := owns_chg HQ8.out (Chg.of_below hb9 (fun _ => False)) (fun _ _ => id)
        have HF9 : Hid _ := fullsT_any wr.heap.size w8.heap.size (.slice (some ⟨g7, 0, none⟩) T.length cap7) v9 T w9 (owns_chg HR8.out (Chg.of_below hb9 (fun _ => False)) (fun _ _ => id)) hr9 (by have := HD8.out.s1.tr.snd.inv.len; omega)
        clear hr9 hb9 v0
        go_wp2_with fail
        refine Calls.mono HF9.out ?_
        rintro e w10 ⟨rfl, hb10⟩
        have HD10 : Hid (Du W w10 (xb + 1) tb q ub q' dv a' T b' U) := HD9.out.below hb10
        have HX10 : Hid _ := kept_block hb10 HX9.out
        have HQ10 : Hid (w10.ownsRow w7.heap.size 45 7 (.slice (some ⟨g8, 0, none⟩) U.length cap8) U.length (U.flatMap Nd.cs)) := owns_chg HQ9.out (Chg.of_below hb10 (fun _ => False)) (fun _ _ => id)
        have x0 := cells_1 HX10.out
        clear hb10
        go_wp2_with fail
        refine Calls.mono (refNodes_any b' d' U w10 HD10.out.s2.nds HD10.out.s2.tr.snd.inv.len) ?_
        rintro e w11 ⟨v11, rfl, hr11, hb11⟩
        have HB11 : Hid (Below W.heap.size W w11) := trans2 HD10.out.s1.low hb11
        have HF11 : Hid _ := fullsT_any w7.heap.size w10.heap.size (.slice (some ⟨g8, 0, none⟩) U.length cap8) v11 U w11 (owns_chg HQ10.out (Chg.of_below hb11 (fun _ => False)) (fun _ _ => id)) hr11 (by have := HD10.out.s2.tr.snd.inv.len; omega)
        clear hr11 hb11 x0
        go_wp2_with fail
        refine Calls.mono HF11.out ?_
        rintro e w12 ⟨rfl, hb12⟩
        have HB12 : Hid (Below W.heap.size W w12) := trans2 HB11.out hb12
        clear hb12
        go_wp2_with fail
        refine (knownT_any w12 (HG.out.below HB12.out)).mono ?_
        rintro e w13 ⟨rfl, hb13⟩
        have HB13 : Hid (Below W.heap.size W w13) := trans2 HB12.out hb13
        clear hb13
        go_wp2_with fail
        go_ret
        exact ⟨rfl, HB13.out⟩
    · have hge : ¬ (p : Int) < (N : Int) := by omega
      go_wp2_with fail
      refine Calls.mono (nodes_tr W.heap.size tb q T wr HDr.out.s1.tr) ?_
      rintro e w7 ⟨g7, cap7, rfl, hr7, hb7⟩
      have HR7 : Hid (w7.ownsRow wr.heap.size 45 7 (.slice (some ⟨g7, 0, none⟩) T.length cap7) T.length (T.flatMap Nd.cs)) := hr7
      have HD7 : Hid (Du W w7 (xb + 1) tb q ub q' dv a' T b' U) := HDr.out.below hb7
      have HV7 : Hid _ := kept_block hb7 HVr.out
      have HX7 : Hid _ := kept_block hb7 HXr.out
      clear hr7 hb7
      go_wp2_with fail
      refine Calls.mono (nodes_tr W.heap.size ub q' U w7 HD7.out.s2.tr) ?_
      rintro e w8 ⟨g8, cap8, rfl, hr8, hb8⟩
      have HR8 : Hid (w8.ownsRow wr.heap.size 45 7 (.slice (some ⟨g7, 0, none⟩) T.length cap7) T.length (T.flatMap Nd.cs)) := owns_chg HR7.out (Chg.of_below hb8 (fun _ => False)) (fun _ _ => id)
      have HQ8 : Hid (w8.ownsRow w7.heap.size 45 7 (.slice (some ⟨g8, 0, none⟩) U.length cap8) U.length (U.flatMap Nd.cs)) := hr8
      have HD8 : Hid (Du W w8 (xb + 1) tb q ub q' dv a' T b' U) := HD7.out.below hb8
      have HV8 : Hid _ := kept_block hb8 HV7.out
      have HX8 : Hid _ := kept_block hb8 HX7.out
      have v0 := cells_1 HV8.out
      clear hr8 hb8
      go_wp2_with fail
      refine Calls.mono (refNodes_any a' c' T w8 HD8.out.s1.nds HD8.out.s1.tr.snd.inv.len) ?_
      rintro e w9 ⟨v9, rfl, hr9, hb9⟩
      have HD9 : Hid (Du W w9 (xb + 1) tb q ub q' dv a' T b' U) := HD8.out.below hb9
      have HX9 : Hid _ := kept_block hb9 HX8.out
      have HQ9 : Hid (w9.ownsRow w7.heap.size 45 7 (.slice (some ⟨g8, 0, none⟩) U.length cap8) U.length (U.flatMap Nd.cs)) := owns_chg HQ8.out (Chg.of_below hb9 (fun _ => False)) (fun _ _ => id)
      have HF9 : Hid _ := fullsT_any wr.heap.size w8.heap.size (.slice (some ⟨g7, 0, none⟩) T.length cap7) v9 T w9 (owns_chg HR8.out (Chg.of_below hb9 (fun _ => False)) (fun _ _ => id)) hr9 (by have := HD8.out.s1.tr.snd.inv.len; omega)
      clear hr9 hb9 v0
      go_wp2_with fail
      refine Calls.mono HF9.out ?_
      rintro e w10 ⟨rfl, hb10⟩
      have HD10 : Hid (Du W w10 (xb + 1) tb q ub q' dv a' T b' U) := HD9.out.below hb10
      have HX10 : Hid _ := kept_block hb10 HX9.out
      have HQ10 : Hid (w10.ownsRow w7.heap.size 45 7 (.slice (some ⟨g8, 0, none⟩) U.length cap8) U.length (U.flatMap Nd.cs)) := owns_chg HQ9.out (Chg.of_below hb10 (fun _ => False)) (fun _ _ => id)
      have x0 := cells_1 HX10.out
      clear hb10
      go_wp2_with fail
      refine Calls.mono (refNodes_any b' d' U w10 HD10.out.s2.nds HD10.out.s2.tr.snd.inv.len) ?_
      rintro e w11 ⟨v11, rfl, hr11, hb11⟩
      have HB11 : Hid (Below W.heap.size W w11) := trans2 HD10.out.s1.low hb11
      have HF11 : Hid _ := fullsT_any w7.heap.size w10.heap.size (.slice (some ⟨g8, 0, none⟩) U.length cap8) v11 U w11 (owns_chg HQ10.out (Chg.of_below hb11 (fun _ => False)) (fun _ _ => id)) hr11 (by have := HD10.out.s2.tr.snd.inv.len; omega)
      clear hr11 hb11 x0
      go_wp2_with fail
      refine Calls.mono HF11.out ?_
      rintro e w12 ⟨rfl, hb12⟩
      have HB12 : Hid (Below W.heap.size W w12) := trans2 HB11.out hb12
      clear hb12
      go_wp2_with fail
      refine (knownT_any w12 (HG.out.below HB12.out)).mono ?_
      rintro e w13 ⟨rfl, hb13⟩
      have HB13 : Hid (Below W.heap.size W w13) := trans2 HB12.out hb13
      clear hb13
      go_wp2_with fail
      go_ret
      exact ⟨rfl, HB13.out⟩
end Go.Proofs.YthelfbdkbldhjaaGreatDoor
