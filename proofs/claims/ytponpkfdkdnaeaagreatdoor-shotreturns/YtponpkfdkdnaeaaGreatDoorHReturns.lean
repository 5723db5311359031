import Derived.Test.YtponpkfdkdnaeaaGreatDoorHKnown
import Derived.Test.YtponpkfdkdnaeaaGreatDoorSEqual
import Derived.Test.YtponpkfdkdnaeaaGreatDoorFDecC
import Derived.Test.YtponpkfdkdnaeaaGreatDoorWMem
import Derived.Test.YtponpkfdkdnaeaaGreatDoorSRoomy
namespace Go.Proofs.YtponpkfdkdnaeaaGreatDoor
open Go.RowKit Go.Maps
set_option linter.unusedVariables false
set_option linter.unusedSimpArgs false

theorem ss_one {w : World} {a : Option Addr} {x : SeenT} (h : Ss w a [x]) : ∃ g o, a = some ⟨g, o, none⟩ ∧ g < w.heap.size ∧ w.cell? ⟨g, o, none⟩ = some (.string x.p) ∧ w.cell? ⟨g, o + 1, none⟩ = some (.string x.d) ∧ w.cell? ⟨g, o + 2, none⟩ = some (.int .i64 x.v) := by
  rcases h with h | ⟨b, o, ha, hlt, hs⟩
  · cases h
  · exact ⟨b, o, ha, hlt, by simpa using hs 0 x rfl 0 _ rfl, by simpa using hs 0 x rfl 1 _ rfl, by simpa using hs 0 x rfl 2 _ rfl⟩
theorem hs_blk {w : World} {b : Nat} {t : TypeId} {k v : Int} {p d : ByteArray} (h : w.heap[b]? = some (.cells #[.int .i64 k, .string p, .string d, .int .i64 v] t (0, 0))) : Hs w (some ⟨b, 0, none⟩) [⟨k, p, d, v⟩] := by
  refine .inr ⟨b, 0, rfl, (Array.getElem?_eq_some_iff.1 h).1, ?_⟩
  intro i s hi j x hx
  match i with
  | i + 1 => simp at hi
  | 0 =>
    simp at hi
    subst hi
    match j with
    | 0 | 1 | 2 | 3 => simp at hx; subst hx; simp [World.cell?, h]
    | j + 4 => simp at hx
theorem hs_first {w : World} {a : Option Addr} {x : ChT} (h : Hs w a [x]) : ∃ g o, a = some ⟨g, o, none⟩ ∧ g < w.heap.size ∧ w.cell? ⟨g, o, none⟩ = some (.int .i64 x.k) := by
  rcases h with h | ⟨b, o, ha, hlt, hs⟩
  · cases h
  · exact ⟨b, o, ha, hlt, by simpa using hs 0 x rfl 0 _ rfl⟩
theorem ok_x : ∀ s ∈ [sX], s.p.size ≤ maxLen := fun s hs => by simp at hs; subst hs; decide
theorem ok_y : ∀ s ∈ [sY], s.p.size ≤ maxLen := fun s hs => by simp at hs; subst hs; decide
set_option maxHeartbeats 16000000 in
set_option maxRecDepth 100000 in
theorem awake_any (w : World) (hg : T.GroundT w) :
    Calls Tryz.prog 4 #[] w fun e w' => e = .returned (.bool true) ∧ Below w.heap.size w w' := by
  have HG : Hid _ := hg
  clear hg
  go_enter Tryz.func4, Tryz.ntmps4
  go_wp2_with fail
  refine (T.new_any w).mono ?_
  rintro e w1 ⟨tb, mb, rfl, hT1, hb1⟩
  have HT1 : Hid _ := hT1
  have HB1 : Hid (Below w.heap.size w w1) := hb1
  have HBa : Hid (Below w1.heap.size w1 (w1.alloc (.cells #[.int .i64 1, .string pA, .string dX, .int .i64 0, .int .i64 0] 46))) := (Below.refl _ _).alloc (Nat.le_refl _) _
  have HPL : Hid _ := T.play1_make w.heap.size tb mb 1 w1.heap.size T.rootD 0 1 pA dX 0 pR ⟨#[]⟩ 0 0 0 0 ⟨#[]⟩ ⟨#[]⟩ 0 0 0 0 0 (w1.alloc (.cells #[.int .i64 1, .string pA, .string dX, .int .i64 0, .int .i64 0] 46)) (HG.out.below (trans2 hb1 HBa.out)) (hT1.below HBa.out) (heap_alloc_new _ _) mal_a (by rw [par_a]; exact look_r) (by rw [par_a]; exact has_r) look_a has_a (by decide) (by decide) (by decide) (by decide) (by decide) (by rw [par_a]; decide) (by decide) (by decide) (by decide) (by decide) (by decide)
  clear hT1 hb1
  go_wp2_with fail
  refine Calls.mono HPL.out ?_
  rintro e w2 ⟨g0, cap0, chV, mb2, rfl, hmb2, hT2, hrow2, hC2⟩
  rw [put_d] at hT2
  have HB2 : Hid (Below w.heap.size w w2) := (trans2 HB1.out HBa.out).trans (hC2.below (by have := HB1.out.size; simp; omega) (fun k _ e => by rw [e]; exact HT1.out.lo))
  have HTK : Hid _ := take_any w.heap.size tb mb2 (1 + 1 + 1) knownD 1 5 pA w2 (HG.out.below HB2.out).toGround hT2 (by decide) wf_d isP_a (.inl rfl) (by decide) (by decide)
  clear hT2 hrow2 hC2 hmb2
  go_wp2_with fail
  refine Calls.mono HTK.out ?_
  rintro e w3 ⟨a, c, ts, rfl, hp3, _, hs3, hc3, _, hb3⟩
  rw [filt_d] at hp3
  obtain rfl := List.perm_singleton.1 hp3
  rw [take_d] at hs3
  obtain ⟨g, o, rfl, hgl, _⟩ := ss_one hs3
  have HB3 : Hid (Below w.heap.size w w3) := trans2 HB2.out hb3
  have HS3 : Hid (Ss w3 (some ⟨g, o, none⟩) [sX]) := hs3
  have HC3 : Hid (1 ≤ c) := hc3
  clear hp3 hs3 hc3 hb3
  go_wp2_with fail
  have HBA3 : Hid (Below w3.heap.size w3 (w3.alloc (.cells (shA 5 pA 1 (some ⟨g, o, none⟩) 1 c) 24))) := (Below.refl _ _).alloc (Nat.le_refl _) _
  have HBC3 : Hid (Below w3.heap.size w3 ((w3.alloc (.cells (shA 5 pA 1 (some ⟨g, o, none⟩) 1 c) 24)).alloc (.cells #[.int .i64 2, .string pA, .string dY, .int .i64 1] 50))) := HBA3.out.alloc (by simp) _
  refine Calls.mono (fold_any 5 pA 1 (some ⟨g, o, none⟩) 1 c [sX] 6 (some ⟨w3.heap.size + 1, 0, none⟩) 1 1 [cY] ((w3.alloc (.cells (shA 5 pA 1 (some ⟨g, o, none⟩) 1 c) 24)).alloc (.cells #[.int .i64 2, .string pA, .string dY, .int .i64 1] 50)) ((HG.out.toGround.below HB3.out).below HBC3.out) (HS3.out.below HBC3.out) rfl ok_x (by decide) HC3.out (hs_blk (heap_new' (by simp))) rfl (by decide)) ?_
  rintro e w4 ⟨st4, p4, k4, la4, lc4, l4, code4, he4, hs4, hr4, _, hb4, hcap4⟩
  obtain ⟨rfl, rfl, rfl, rfl, rfl⟩ := hr4.ok good_x (by decide) _ fold_d
  have he4' : e = .returned (.tuple #[.agg (shA 6 pA 1 la4 1 lc4), .int .i64 0]) := he4
  subst he4'
  obtain ⟨g4, o4, rfl, hg4l, _⟩ := ss_one hs4
  have HB34 : Hid (Below w3.heap.size w3 w4) := trans2 HBC3.out hb4
  have HX4 : Hid (w4.heap[w3.heap.size]? = some (.cells (shA 5 pA 1 (some ⟨g, o, none⟩) 1 c) 24 (0, 0))) := T.kept_block hb4 (new_old (heap_alloc_new _ _) _)
  have HSX4 : Hid (Ss w4 (some ⟨g, o, none⟩) [sX]) := HS3.out.below HB34.out
  have HSY4 : Hid (Ss w4 (some ⟨g4, o4, none⟩) [sY]) := hs4
  have HCY : Hid (1 ≤ lc4) := hcap4
  have HB4 : Hid (Below w.heap.size w w4) := trans2 HB3.out HB34.out
  clear hs4 hr4 hb4 hcap4 he4
  have hlt4 : w3.heap.size < w4.heap.size := (Array.getElem?_eq_some_iff.1 HX4.out).1
  have hne4 : w3.heap.size ≠ w4.heap.size := by omega
  obtain ⟨x0, x1, x2, x3⟩ := T.cells_4 (new_old HX4.out (.cells (shA 6 pA 1 (some ⟨g4, o4, none⟩) 1 lc4) 24))
  go_wp2_with fail
  have HBA4 : Hid (Below w4.heap.size w4 (w4.alloc (.cells (shA 6 pA 1 (some ⟨g4, o4, none⟩) 1 lc4) 24))) := (Below.refl _ _).alloc (Nat.le_refl _) _
  refine Calls.mono (diff_any 5 pA 1 (some ⟨g, o, none⟩) c 1 [sX] 6 pA 1 (some ⟨g4, o4, none⟩) lc4 1 [sY] (w4.alloc (.cells (shA 6 pA 1 (some ⟨g4, o4, none⟩) 1 lc4) 24)) ((HG.out.toGround.below HB4.out).below HBA4.out) (HSX4.out.below HBA4.out) (HSY4.out.below HBA4.out) rfl rfl HC3.out HCY.out (fun h => by cases h) (fun h => by cases h) (by decide) (by decide) ok_x ok_y) ?_
  rintro e w5 ⟨va5, vc5, code5, D5, he5, hd5, hh5, hb5⟩
  obtain ⟨rfl, hD5⟩ := hd5.all good_x good_y rfl rfl
  rw [diff_d] at hD5
  subst hD5
  have he5' : e = .returned (.tuple #[.slice va5 1 vc5, .int .i64 0]) := he5
  subst he5'
  obtain ⟨g5, o5, rfl, hg5l, _⟩ := hs_first hh5
  have HB45 : Hid (Below w4.heap.size w4 w5) := trans2 HBA4.out hb5
  have HX5 : Hid (w5.heap[w3.heap.size]? = some (.cells (shA 5 pA 1 (some ⟨g, o, none⟩) 1 c) 24 (0, 0))) := T.kept_block HB45.out HX4.out
  have HY5 : Hid (w5.heap[w4.heap.size]? = some (.cells (shA 6 pA 1 (some ⟨g4, o4, none⟩) 1 lc4) 24 (0, 0))) := T.kept_block hb5 (heap_alloc_new _ _)
  have HSX5 : Hid (Ss w5 (some ⟨g, o, none⟩) [sX]) := HSX4.out.below HB45.out
  have HSY5 : Hid (Ss w5 (some ⟨g4, o4, none⟩) [sY]) := HSY4.out.below HB45.out
  have HH5 : Hid (Hs w5 (some ⟨g5, o5, none⟩) [cY]) := hh5
  have HB5 : Hid (Below w.heap.size w w5) := trans2 HB4.out HB45.out
  clear hd5 hh5 hb5 he5 x0 x1 x2 x3 hlt4 hne4
  obtain ⟨x0, x1, x2, x3⟩ := T.cells_4 HX5.out
  go_wp2_with fail
  refine Calls.mono (W.encode_any 5 pA 1 (some ⟨g, o, none⟩) c 1 [sX] w5 rfl (HG.out.toGround.below HB5.out) HSX5.out ok_x (by decide) HC3.out) ?_
  rintro e w6 ⟨a6, c6, zs, he6, hz6, _, hy6, hb6, hc6, hm6⟩
  have hzs := hz6 good_x
  have hzl : zs.length = 12 := by rw [hzs]; exact len_d
  rw [chk_good good_x, hzl] at he6
  subst he6
  rw [hzl] at hc6
  have HDE : Hid (∀ w', Below w6.heap.size w6 w' → Calls Tryz.prog 8 #[.slice a6 12 c6] w' fun e w'' => W.DecEnd zs w' w'' e) := fun w' hb => by
    have := W.decode_any a6 c6 zs w' ((HG.out.toGround.below (trans2 HB5.out hb6)).below hb) (hy6.below hb) (by rw [hzs]; exact byt_d) (by rw [hzl]; decide) (by rw [hzl]; exact hc6) hm6
    rw [hzl] at this
    exact this
  have HZS : Hid (zs = W.shotL 5 pA 1 [sX]) := hzs
  have HX6 : Hid (w6.heap[w3.heap.size]? = some (.cells (shA 5 pA 1 (some ⟨g, o, none⟩) 1 c) 24 (0, 0))) := T.kept_block hb6 HX5.out
  have HY6 : Hid (w6.heap[w4.heap.size]? = some (.cells (shA 6 pA 1 (some ⟨g4, o4, none⟩) 1 lc4) 24 (0, 0))) := T.kept_block hb6 HY5.out
  have HSX6 : Hid (Ss w6 (some ⟨g, o, none⟩) [sX]) := HSX5.out.below hb6
  have HSY6 : Hid (Ss w6 (some ⟨g4, o4, none⟩) [sY]) := HSY5.out.below hb6
  have HH6 : Hid (Hs w6 (some ⟨g5, o5, none⟩) [cY]) := HH5.out.below hb6
  have HB6 : Hid (Below w.heap.size w w6) := trans2 HB5.out hb6
  clear hz6 hy6 hb6 hc6 hm6 hzs hzl x0 x1 x2 x3
  go_wp2_with fail
  refine Calls.mono (HDE.out w6 (Below.refl _ _)) ?_
  rintro e w7 ⟨st7, p7, k7, la7, lc7, l7, code7, he7, hs7, hr7, hb7, _⟩
  obtain ⟨rfl, rfl, rfl, rfl, rfl⟩ := hr7.good _ (by rw [HZS.out, len_d]; decide) (by rw [HZS.out]; exact back_d) (by rw [HZS.out]) good_x
  have he7' : e = .returned (.tuple #[.agg (shA 5 pA 1 la7 1 lc7), .int .i64 0]) := he7
  subst he7'
  have HX7 : Hid (w7.heap[w3.heap.size]? = some (.cells (shA 5 pA 1 (some ⟨g, o, none⟩) 1 c) 24 (0, 0))) := T.kept_block hb7 HX6.out
  have HY7 : Hid (w7.heap[w4.heap.size]? = some (.cells (shA 6 pA 1 (some ⟨g4, o4, none⟩) 1 lc4) 24 (0, 0))) := T.kept_block hb7 HY6.out
  have HSX7 : Hid (Ss w7 (some ⟨g, o, none⟩) [sX]) := HSX6.out.below hb7
  have HSY7 : Hid (Ss w7 (some ⟨g4, o4, none⟩) [sY]) := HSY6.out.below hb7
  have HSZ7 : Hid (Ss w7 la7 [sX]) := hs7
  have HH7 : Hid (Hs w7 (some ⟨g5, o5, none⟩) [cY]) := HH6.out.below hb7
  have HB7 : Hid (Below w.heap.size w w7) := trans2 HB6.out hb7
  clear hs7 hr7 hb7 he7
  have HB8 : Hid (Below w7.heap.size w7 (w7.alloc (.cells (shA 5 pA 1 la7 1 lc7) 24))) := (Below.refl _ _).alloc (Nat.le_refl _) _
  have hl3 : w3.heap.size < w7.heap.size := (Array.getElem?_eq_some_iff.1 HX7.out).1
  have hl4 : w4.heap.size < w7.heap.size := (Array.getElem?_eq_some_iff.1 HY7.out).1
  obtain ⟨x0, x1, x2, x3⟩ := T.cells_4 (T.kept_block HB8.out HX7.out)
  obtain ⟨y0, y1, y2, y3⟩ := T.cells_4 (T.kept_block HB8.out HY7.out)
  obtain ⟨_, _, e1, _, _, c1, _⟩ := ss_one (HSX7.out.below HB8.out)
  cases e1
  obtain ⟨_, _, e2, _, _, c2, _⟩ := ss_one (HSY7.out.below HB8.out)
  cases e2
  obtain ⟨_, _, e3, _, c3⟩ := hs_first (HH7.out.below HB8.out)
  cases e3
  go_wp2_with fail
  have HE1 : Hid (∀ w', Below w7.heap.size w7 w' → Calls Tryz.prog 16 #[.agg (shA 5 pA 1 (some ⟨g, o, none⟩) 1 c), .agg (shA 5 pA 1 la7 1 lc7)] w' fun e w'' => e = .returned (.bool true) ∧ Below w'.heap.size w' w'') := fun w' hb => by
    have := same_any ⟨5, pA, 1, some ⟨g, o, none⟩, c, [sX]⟩ ⟨5, pA, 1, la7, lc7, [sX]⟩ w' (HSX7.out.below hb) (HSZ7.out.below hb) (by show (1 : Nat) ≤ maxLen; decide)
    refine Calls.mono this ?_
    rintro e w'' ⟨rfl, h⟩
    exact ⟨by simp, h⟩
  have HE2 : Hid (∀ w', Below w7.heap.size w7 w' → Calls Tryz.prog 16 #[.agg (shA 5 pA 1 (some ⟨g, o, none⟩) 1 c), .agg (shA 6 pA 1 (some ⟨g4, o4, none⟩) 1 lc4)] w' fun e w'' => e = .returned (.bool false) ∧ Below w'.heap.size w' w'') := fun w' hb => by
    have := same_any ⟨5, pA, 1, some ⟨g, o, none⟩, c, [sX]⟩ ⟨6, pA, 1, some ⟨g4, o4, none⟩, lc4, [sY]⟩ w' (HSX7.out.below hb) (HSY7.out.below hb) (by show (1 : Nat) ≤ maxLen; decide)
    refine Calls.mono this ?_
    rintro e w'' ⟨rfl, h⟩
    exact ⟨by simp, h⟩
  refine (HE1.out _ HB8.out).mono ?_
  rintro e w9 ⟨rfl, hb9⟩
  have HB9 : Hid (Below w7.heap.size w7 w9) := trans2 HB8.out hb9
  clear hb9 x0 x1 x2 x3 y0 y1 y2 y3 c1 c2 c3
  obtain ⟨x0, x1, x2, x3⟩ := T.cells_4 (T.kept_block HB9.out HX7.out)
  obtain ⟨y0, y1, y2, y3⟩ := T.cells_4 (T.kept_block HB9.out HY7.out)
  go_wp2_with fail
  refine (HE2.out _ HB9.out).mono ?_
  rintro e w10 ⟨rfl, hb10⟩
  go_wp2_with fail
  go_ret
  exact ⟨rfl, trans2 HB7.out (trans2 HB9.out hb10)⟩
end Go.Proofs.YtponpkfdkdnaeaaGreatDoor
namespace Go.Proofs.YtponpkfdkdnaeaaGreatDoor.W
open Go.RowKit
set_option linter.unusedVariables false
set_option linter.unusedSimpArgs false
theorem same_partB {xs ys : List Int} {k : Nat} {x y : Int} (hx : xs[k]? = some x) (hy : ys[k]? = some y) (h : x ≠ y) : xs ≠ ys := by
  intro e
  subst e
  rw [hx] at hy
  exact h (Option.some.inj hy)
theorem same_stepB {xs ys : List Int} {k : Nat} {x : Int} (hx : xs[k]? = some x) (hy : ys[k]? = some x) (h : xs.take k = ys.take k) : xs.take (k + 1) = ys.take (k + 1) := by
  rw [List.take_add_one, List.take_add_one, hx, hy, h]

theorem sameBytes_any (a b : Option Addr) (c d : Nat) (xs ys : List Int) (w : World) (hx : Bys w a xs) (hy : Bys w b ys) (hm : xs.length ≤ maxLen) :
    Calls Tryz.prog 10 #[.slice a xs.length c, .slice b ys.length d] w fun e w' => e = .returned (.bool (decide (xs = ys))) ∧ ∃ m, w' = w.drewN m := by
  unfold maxLen at hm
  by_cases hl : xs.length = ys.length
  · rcases hx with rfl | ⟨b1, o1, rfl, h1, hs1⟩
    · have : ys = [] := List.eq_nil_of_length_eq_zero hl.symm
      subst this
      go_enter Tryz.func10, Tryz.ntmps10
      go_wp2
      refine wp_loop_rounds 1 ?_
      rw [rounds_succ]
      go_wp2
      go_ret
      exact ⟨rfl, 0, rfl⟩
    · rcases hy with rfl | ⟨b2, o2, rfl, h2, hs2⟩
      · have : xs = [] := List.eq_nil_of_length_eq_zero hl
        subst this
        go_enter Tryz.func10, Tryz.ntmps10
        go_wp2
        refine wp_loop_rounds 1 ?_
        rw [rounds_succ]
        go_wp2
        go_ret
        exact ⟨rfl, 0, rfl⟩
      · obtain ⟨r, hr⟩ : ∃ r, decide (xs = ys) = r := ⟨_, rfl⟩
        rw [hr]
        have HR : Hid _ := hr
        have HS1 : Hid _ := hs1
        have HS2 : Hid _ := hs2
        clear hs1 hs2 h1 h2 hr
        go_enter Tryz.func10, Tryz.ntmps10
        go_wp2
        go_loopw [5] (fun i wr => ∃ k m : Nat, i = .int .i64 k ∧ wr = w.drewN m ∧ k ≤ xs.length ∧ xs.take k = ys.take k) (fun i _ => xs.length - (intOf i).toNat)
        case atStart => exact ⟨0, 0, rfl, rfl, by omega, rfl⟩
        case round =>
          obtain ⟨k, m, rfl, rfl, hk, ha⟩ := hrel
          have HA : Hid _ := ha
          clear ha
          by_cases hlt : k < xs.length
          · obtain ⟨x, hx⟩ : ∃ x, xs[k]? = some x := ⟨xs[k], List.getElem?_eq_getElem hlt⟩
            obtain ⟨y, hy⟩ : ∃ y, ys[k]? = some y := ⟨ys[k]'(by omega), List.getElem?_eq_getElem (by omega)⟩
            have hc1 := HS1.out k x hx
            have hc2 := HS2.out k y hy
            have HX : Hid (xs[k]? = some x) := hx
            have HY : Hid (ys[k]? = some y) := hy
            clear hx hy
            have hlt' : (k : Int) < (xs.length : Int) := by omega
            have hlt2 : (k : Int) < (ys.length : Int) := by omega
            by_cases he : x = y
            · subst he
              go_wp2
              go_quiet (fail)
              go_wp2
              go_roundw
              case rel => exact ⟨k + 1, m + nq, by go_num, rfl, by omega, same_stepB HX.out HY.out HA.out⟩
              case measure => simp [intOf]; omega
            · have he' : (x != y) = true := by simpa using he
              go_wp2
              go_quiet (fail)
              go_wp2
              go_ret
              refine ⟨?_, m + nq, by simp⟩
              rw [← HR.out, decide_eq_false (same_partB HX.out HY.out he)]
              rfl
          · obtain rfl : k = xs.length := by omega
            have e : r = true := by
              have := HA.out
              rw [List.take_length, hl, List.take_length] at this
              rw [← HR.out, decide_eq_true this]
            subst e
            clear HR HS1 HS2 HA
            go_wp2
            go_ret
            exact ⟨rfl, m, rfl⟩
  · have hne : decide (xs = ys) = false := decide_eq_false (fun e => hl (by rw [e]))
    rw [hne]
    clear hx hy hne
    have hl' : ((xs.length : Int) != (ys.length : Int)) = true := by simp; omega
    go_enter Tryz.func10, Tryz.ntmps10
    go_wp2
    go_ret
    exact ⟨rfl, 0, rfl⟩
end Go.Proofs.YtponpkfdkdnaeaaGreatDoor.W
namespace Go.Proofs.YtponpkfdkdnaeaaGreatDoor
open Go.RowKit Classical
set_option linter.unusedVariables false
set_option linter.unusedSimpArgs false

theorem dec_cases {xs : List Int} {code st k : Int} {p : ByteArray} {l : List SeenT} (h : W.DecRes xs code st p k l) (hl : xs.length ≤ 262144) (hb : W.Byt xs) : code = 51 ∨ (code = 0 ∧ Good st p k l ∧ W.shotL st p k l = xs) := by
  by_cases hx : ∀ R, W.rdShot xs = some R → R.at' = xs.length → ¬ Good R.st R.p R.k R.l
  · exact .inl (h.bad hl hx).1
  · obtain ⟨R, hR, ha, hg⟩ : ∃ R, W.rdShot xs = some R ∧ R.at' = xs.length ∧ Good R.st R.p R.k R.l := Classical.byContradiction fun hn => hx (fun R hR ha hg => hn ⟨R, hR, ha, hg⟩)
    obtain ⟨rfl, rfl, rfl, rfl, rfl⟩ := h.good R hl hR ha hg
    exact .inr ⟨rfl, hg, W.rdShot_only hb hR ha⟩
theorem good_len {st k : Int} {p : ByteArray} {l : List SeenT} (h : Good st p k l) : l.length ≤ 64 := h.2.2.1
theorem alikeB (st : Int) (p : ByteArray) (k : Int) (la lb : Option Addr) (L lc ld : Nat) (l : List SeenT) (w : World) (hL : l.length = L) (hs : Ss w la l) (ht : Ss w lb l) (hm : L ≤ maxLen) :
    Calls Tryz.prog 9 #[.agg (shA st p k la L lc), .agg (shA st p k lb L ld)] w fun e w' => e = .returned (.bool true) ∧ Below w.heap.size w w' := by
  subst hL
  have := alike_any ⟨st, p, k, la, lc, l⟩ ⟨st, p, k, lb, ld, l⟩ w hs ht hm rfl
  refine Calls.mono this ?_
  rintro e w'' ⟨rfl, h⟩
  exact ⟨by simp, h⟩
theorem textL_byt (x : ByteArray) : W.Byt (W.textL x) := by
  unfold W.textL
  split
  · exact (W.numL_byt _).append (W.strL_byt _)
  · intro z hz; cases hz
theorem textL_le (x : ByteArray) (h : x.size ≤ 102) : (W.textL x).length ≤ 107 := by
  unfold W.textL
  rw [if_pos (by omega), List.length_append, W.strL_len]
  have := W.num_le x.size (by omega)
  omega
theorem seensL_byt : ∀ l : List SeenT, W.Byt (W.seensL l)
  | [] => fun z hz => by cases hz
  | s :: l => by
    have e : W.seensL (s :: l) = W.seenL s ++ W.seensL l := by simp [W.seensL]
    rw [e]
    exact ((textL_byt _).append ((textL_byt _).append (W.numL_byt _))).append (seensL_byt l)
theorem seensL_le : ∀ l : List SeenT, (∀ s ∈ l, s.p.size ≤ 102 ∧ s.d.size ≤ 64 ∧ 0 ≤ s.v ∧ s.v ≤ 2147483647) → (W.seensL l).length ≤ l.length * 300
  | [], _ => by simp [W.seensL]
  | s :: l, h => by
    have e : W.seensL (s :: l) = W.seenL s ++ W.seensL l := by simp [W.seensL]
    have h0 := h s (by simp)
    have h1 := textL_le s.p h0.1
    have h2 := textL_le s.d (by omega)
    have h3 := W.num_le s.v.toNat (by omega)
    have h4 := seensL_le l (fun x hx => h x (by simp [hx]))
    rw [e]
    simp only [W.seenL, List.length_append, List.length_cons]
    omega
theorem good_sz {st k : Int} {p : ByteArray} {l : List SeenT} (h : Good st p k l) : ∀ s ∈ l, s.p.size ≤ maxLen := fun x hx => by have := (W.sized_of_good h).each x hx; unfold maxLen; omega
theorem back_good {st k : Int} {p : ByteArray} {l : List SeenT} (h : Good st p k l) : W.rdShot (W.shotL st p k l) = some ⟨st, p, k, l, ((W.shotL st p k l).length : Int)⟩ ∧ W.Byt (W.shotL st p k l) ∧ (W.shotL st p k l).length ≤ 262144 := by
  have z := W.sized_of_good h
  have zs := z.st
  have zp := z.p
  have zk := z.k
  have zl := z.len
  refine ⟨W.rdShot_back st p k l zs (by omega) (by omega) zl (fun s hs => ?_), ?_, ?_⟩
  · have := z.each s hs
    exact ⟨by omega, by omega, by omega⟩
  · exact (W.numL_byt _).append ((textL_byt _).append ((W.numL_byt _).append ((W.numL_byt _).append (seensL_byt l))))
  · have h1 := W.num_le st.toNat (by omega)
    have h2 := textL_le p zp
    have h3 := W.num_le k.toNat (by omega)
    have h4 := W.num_le l.length (by omega)
    have h5 := seensL_le l z.each
    unfold W.shotL
    simp only [List.length_append]
    omega

set_option maxHeartbeats 12800000 in
set_option maxRecDepth 100000 in
theorem returns_walk (V : World) (s : ShT) (da : Option Addr) (dc : Nat) (xs : List Int) (hs : Ss V s.a s.l) (hok : ∀ x ∈ s.l, x.p.size ≤ maxLen) (hcap : s.l.length ≤ s.c) (hx : W.Bys V da xs) (hb : W.Byt xs) (hdc : xs.length ≤ dc) (hdm : dc ≤ maxLen) (hg : T.GroundT V) :
    Calls Tryz.prog 3 #[s.val, .slice da xs.length dc] V fun e w' => e = .returned (.bool true) ∧ Below V.heap.size V w' := by
  obtain ⟨st, p, k, a, c, l⟩ := s
  obtain ⟨n, hn⟩ : ∃ n, l.length = n := ⟨_, rfl⟩
  obtain ⟨m, hm⟩ : ∃ m, xs.length = m := ⟨_, rfl⟩
  have HA0 : Hid ((V.alloc (.cells (shA st p k a n c) 24)).heap[V.heap.size]? = some (.cells (shA st p k a n c) 24 (0, 0))) := heap_alloc_new _ _
  have HB0 : Hid (Below V.heap.size V (V.alloc (.cells (shA st p k a n c) 24))) := (Below.refl _ _).alloc (Nat.le_refl _) _
  have HG : Hid (T.GroundT V) := hg
  have HS : Hid (Ss V a l) := hs
  have HOK : Hid (∀ x ∈ l, x.p.size ≤ maxLen) := hok
  have HCAP : Hid (n ≤ c) := by show _ ≤ _; rw [← hn]; exact hcap
  have HN : Hid (l.length = n) := hn
  have HM : Hid (xs.length = m) := hm
  have HX : Hid (W.Bys V da xs) := hx
  have HBY : Hid (W.Byt xs) := hb
  have HDC : Hid (m ≤ dc ∧ dc ≤ maxLen) := ⟨by rw [← hm]; exact hdc, hdm⟩
  have HSM : Hid (∀ w, Calls Tryz.prog 5 #[.agg (shA st p k a n c)] w fun e w' => e = .returned (.bool (decide ((n : Int) ≤ 70))) ∧ Below w.heap.size w w') := fun w => by
    have := small_any ⟨st, p, k, a, c, l⟩ w
    subst hn
    exact this
  have HAW : Hid (∀ w', Below V.heap.size V w' → Calls Tryz.prog 4 #[] w' fun e w'' => e = .returned (.bool true) ∧ Below w'.heap.size w' w'') := fun w' hb => awake_any w' (hg.below hb)
  show Calls Tryz.prog 3 #[.agg (shA st p k a l.length c), .slice da xs.length dc] V _
  rw [hn, hm]
  clear hs hok hcap hx hb hdc hdm hg hn hm
  by_cases h70 : (n : Int) ≤ 70
  case neg =>
    rw [decide_eq_false h70] at HSM
    clear h70
    go_enter Tryz.func3, Tryz.ntmps3
    go_wp2_with fail
    refine (HAW.out _ HB0.out).mono ?_
    rintro e w1 ⟨rfl, hb1⟩
    have HB1 : Hid (Below V.heap.size V w1) := trans2 HB0.out hb1
    obtain ⟨a0, a1, a2, a3⟩ := T.cells_4 (T.kept_block hb1 HA0.out)
    clear hb1
    go_wp2_with fail
    refine (HSM.out _).mono ?_
    rintro e w2 ⟨rfl, hb2⟩
    go_wp2_with fail
    go_ret
    exact ⟨rfl, trans2 HB1.out hb2⟩
  have H70 : Hid (n ≤ 70) := by show n ≤ 70; omega
  rw [decide_eq_true h70] at HSM
  clear h70
  by_cases hd : m ≤ 40000
  case neg =>
    have hd' : (40000 : Int) < (m : Int) := by omega
    clear hd
    go_enter Tryz.func3, Tryz.ntmps3
    go_wp2_with fail
    refine (HAW.out _ HB0.out).mono ?_
    rintro e w1 ⟨rfl, hb1⟩
    have HB1 : Hid (Below V.heap.size V w1) := trans2 HB0.out hb1
    obtain ⟨a0, a1, a2, a3⟩ := T.cells_4 (T.kept_block hb1 HA0.out)
    clear hb1
    go_wp2_with fail
    refine (HSM.out _).mono ?_
    rintro e w2 ⟨rfl, hb2⟩
    go_wp2_with fail
    go_ret
    exact ⟨rfl, trans2 HB1.out hb2⟩
  have HD : Hid (m ≤ 40000) := hd
  have hd' : ¬ (40000 : Int) < (m : Int) := by omega
  clear hd
  have HEN : Hid (∀ w', Below V.heap.size V w' → Calls Tryz.prog 6 #[.agg (shA st p k a n c)] w' fun e w'' => ∃ a' c' zs, e = .returned (.tuple #[.slice a' zs.length c', .int .i64 (chk st p k l)]) ∧ (Good st p k l → zs = W.shotL st p k l) ∧ (¬ Good st p k l → zs = []) ∧ W.Bys w'' a' zs ∧ Below w'.heap.size w' w'' ∧ zs.length ≤ c' ∧ c' ≤ maxLen) := fun w' hb => W.encode_any st p k a c n l w' HN.out (HG.out.toGround.below hb) (HS.out.below hb) HOK.out (by have := H70.out; unfold maxLen; omega) HCAP.out
  have HCH : Hid (∀ w', Below V.heap.size V w' → Calls Tryz.prog 7 #[.agg (shA st p k a n c)] w' fun e w'' => e = .returned (.int .i64 (chk st p k l)) ∧ Below w'.heap.size w' w'') := fun w' hb => by
    have := check_any st p k a c l w' (HG.out.toGround.below hb) (HS.out.below hb) HOK.out (by rw [HN.out]; have := H70.out; unfold maxLen; omega) (by rw [HN.out]; exact HCAP.out)
    rw [HN.out] at this
    exact this
  have HDD : Hid (∀ w', Below V.heap.size V w' → Calls Tryz.prog 8 #[.slice da m dc] w' fun e w'' => W.DecEnd xs w' w'' e) := fun w' hb => by
    have := W.decode_any da dc xs w' (HG.out.toGround.below hb) (HX.out.below hb) HBY.out (by rw [HM.out]; have := HD.out; omega) (by rw [HM.out]; exact HDC.out.1) HDC.out.2
    rw [HM.out] at this
    exact this
  by_cases hgd : Good st p k l
  · rw [chk_good hgd] at HEN HCH
    have HGD : Hid (Good st p k l) := hgd
    clear hgd
    go_enter Tryz.func3, Tryz.ntmps3
    go_wp2_with fail
    refine (HAW.out _ HB0.out).mono ?_
    rintro e w1 ⟨rfl, hb1⟩
    have HB1 : Hid (Below V.heap.size V w1) := trans2 HB0.out hb1
    have HA1 : Hid (w1.heap[V.heap.size]? = some (.cells (shA st p k a n c) 24 (0, 0))) := T.kept_block hb1 HA0.out
    obtain ⟨a0, a1, a2, a3⟩ := T.cells_4 HA1.out
    clear hb1
    go_wp2_with fail
    refine (HSM.out _).mono ?_
    rintro e w2 ⟨rfl, hb2⟩
    have HB2 : Hid (Below V.heap.size V w2) := trans2 HB1.out hb2
    have HA2 : Hid (w2.heap[V.heap.size]? = some (.cells (shA st p k a n c) 24 (0, 0))) := T.kept_block hb2 HA1.out
    clear hb2 a0 a1 a2 a3
    obtain ⟨a0, a1, a2, a3⟩ := T.cells_4 HA2.out
    go_wp2_with fail
    refine Calls.mono (HEN.out _ HB2.out) ?_
    rintro e w3 ⟨a3', c3, zs, rfl, hz, hz', hy3, hb3, hc3, hm3⟩
    have HB3 : Hid (Below V.heap.size V w3) := trans2 HB2.out hb3
    have HA3 : Hid (w3.heap[V.heap.size]? = some (.cells (shA st p k a n c) 24 (0, 0))) := T.kept_block hb3 HA2.out
    have HZ : Hid ((Good st p k l → zs = W.shotL st p k l) ∧ W.Bys w3 a3' zs ∧ zs.length ≤ c3 ∧ c3 ≤ maxLen) := ⟨hz, hy3, hc3, hm3⟩
    obtain ⟨zn, hzn⟩ : ∃ zn, zs.length = zn := ⟨_, rfl⟩
    have HZN : Hid (zs.length = zn) := hzn
    rw [hzn]
    clear hb3 a0 a1 a2 a3 hz hz' hy3 hc3 hm3 hzn
    obtain ⟨a0, a1, a2, a3⟩ := T.cells_4 HA3.out
    go_wp2_with fail
    refine Calls.mono (HCH.out _ HB3.out) ?_
    rintro e w4 ⟨rfl, hb4⟩
    have HB4 : Hid (Below V.heap.size V w4) := trans2 HB3.out hb4
    have HA4 : Hid (w4.heap[V.heap.size]? = some (.cells (shA st p k a n c) 24 (0, 0))) := T.kept_block hb4 HA3.out
    have HB34 : Hid (Below w3.heap.size w3 w4) := hb4
    clear hb4 a0 a1 a2 a3
    go_wp2_with fail
    have HZD : Hid (Calls Tryz.prog 8 #[.slice a3' zn c3] w4 fun e w'' => W.DecEnd zs w4 w'' e) := by
      have hzs := HZ.out.1 HGD.out
      have := W.decode_any a3' c3 zs w4 (HG.out.toGround.below HB4.out) (HZ.out.2.1.below HB34.out) (by rw [hzs]; exact (back_good HGD.out).2.1) (by rw [hzs]; have := (back_good HGD.out).2.2; omega) HZ.out.2.2.1 HZ.out.2.2.2
      rw [HZN.out] at this
      exact this
    refine Calls.mono HZD.out ?_
    rintro e w5 ⟨st5, p5, k5, la5, lc5, l5, code5, he5, hs5, hr5, hb5, _⟩
    have hzs := HZ.out.1 HGD.out
    obtain ⟨rfl, rfl, rfl, rfl, rfl⟩ := hr5.good _ (by rw [hzs]; exact (back_good HGD.out).2.2) (by rw [hzs]; exact (back_good HGD.out).1) (by rw [hzs]) HGD.out
    rw [HN.out] at he5
    subst he5
    have HS5 : Hid (Ss w5 la5 l5) := hs5
    have HB5 : Hid (Below V.heap.size V w5) := trans2 HB4.out hb5
    have HA5 : Hid (w5.heap[V.heap.size]? = some (.cells (shA st5 p5 k5 a n c) 24 (0, 0))) := T.kept_block hb5 HA4.out
    clear hs5 hr5 hb5 hzs
    have hlt5 : V.heap.size < w5.heap.size := (Array.getElem?_eq_some_iff.1 HA5.out).1
    have hne5 : V.heap.size ≠ w5.heap.size := by omega
    have HB6 : Hid (Below V.heap.size V (w5.alloc (.cells (shA st5 p5 k5 la5 n lc5) 24))) := HB5.out.alloc HB5.out.size _
    obtain ⟨a0, a1, a2, a3⟩ := T.cells_4 (new_old HA5.out (.cells (shA st5 p5 k5 la5 n lc5) 24))
    go_wp2_with fail
    refine (alikeB st5 p5 k5 a la5 n c lc5 l5 _ HN.out (HS.out.below HB6.out) (HS5.out.below ((Below.refl _ _).alloc (Nat.le_refl _) _)) (by have := H70.out; unfold maxLen; omega)).mono ?_
    rintro e w7 ⟨rfl, hb7⟩
    have HB7 : Hid (Below V.heap.size V w7) := trans2 HB6.out hb7
    clear hb7 a0 a1 a2 a3
    go_wp2_with fail
    refine Calls.mono (HDD.out _ HB7.out) ?_
    rintro e w8 ⟨st8, p8, k8, la8, lc8, l8, code8, he8, hs8, hr8, hb8, hcap8⟩
    subst he8
    have HB8 : Hid (Below V.heap.size V w8) := trans2 HB7.out hb8
    rcases dec_cases hr8 (by rw [HM.out]; have := HD.out; omega) HBY.out with rfl | ⟨rfl, hg8, hsh8⟩
    · clear hs8 hr8 hb8 hcap8
      go_wp2_with fail
      go_ret
      exact ⟨rfl, HB8.out.alloc HB8.out.size _⟩
    · have HG8 : Hid (Good st8 p8 k8 l8) := hg8
      have HE8 : Hid (W.shotL st8 p8 k8 l8 = xs) := hsh8
      have HS8 : Hid (Ss w8 la8 l8) := hs8
      obtain ⟨L8, hL8⟩ : ∃ L8, l8.length = L8 := ⟨_, rfl⟩
      have HL8 : Hid (l8.length = L8) := hL8
      have HC8 : Hid (L8 ≤ lc8) := by show _ ≤ _; rw [← hL8]; exact hcap8
      rw [hL8]
      clear hs8 hr8 hb8 hcap8 hg8 hsh8 hL8
      have HB9 : Hid (Below V.heap.size V (w8.alloc (.cells (shA st8 p8 k8 la8 L8 lc8) 24))) := HB8.out.alloc HB8.out.size _
      go_wp2_with fail
      refine Calls.mono (W.encode_any st8 p8 k8 la8 lc8 L8 l8 (w8.alloc (.cells (shA st8 p8 k8 la8 L8 lc8) 24)) HL8.out (HG.out.toGround.below HB9.out) (HS8.out.below ((Below.refl _ _).alloc (Nat.le_refl _) _)) (good_sz HG8.out) (by have := good_len HG8.out; rw [HL8.out] at this; unfold maxLen; omega) HC8.out) ?_
      rintro e w10 ⟨a10, c10, ys, he10, hz10, _, hy10, hb10, _, _⟩
      have hys : ys = xs := (hz10 HG8.out).trans HE8.out
      subst hys
      rw [chk_good HG8.out, HM.out] at he10
      subst he10
      have HB10 : Hid (Below V.heap.size V w10) := trans2 HB9.out hb10
      have HSB : Hid _ := W.sameBytes_any a10 da c10 dc ys ys w10 hy10 (HX.out.below HB10.out) (by rw [HM.out]; have := HD.out; unfold maxLen; omega)
      rw [HM.out] at HSB
      clear hz10 hy10 hb10
      go_wp2_with fail
      refine Calls.mono HSB.out ?_
      rintro e w11 ⟨rfl, mm, rfl⟩
      go_wp2_with fail
      go_ret
      exact ⟨by simp, below_drewN HB10.out mm⟩
  · rw [chk_bad hgd] at HEN HCH
    clear hgd
    go_enter Tryz.func3, Tryz.ntmps3
    go_wp2_with fail
    refine (HAW.out _ HB0.out).mono ?_
    rintro e w1 ⟨rfl, hb1⟩
    have HB1 : Hid (Below V.heap.size V w1) := trans2 HB0.out hb1
    have HA1 : Hid (w1.heap[V.heap.size]? = some (.cells (shA st p k a n c) 24 (0, 0))) := T.kept_block hb1 HA0.out
    obtain ⟨a0, a1, a2, a3⟩ := T.cells_4 HA1.out
    clear hb1
    go_wp2_with fail
    refine (HSM.out _).mono ?_
    rintro e w2 ⟨rfl, hb2⟩
    have HB2 : Hid (Below V.heap.size V w2) := trans2 HB1.out hb2
    have HA2 : Hid (w2.heap[V.heap.size]? = some (.cells (shA st p k a n c) 24 (0, 0))) := T.kept_block hb2 HA1.out
    clear hb2 a0 a1 a2 a3
    obtain ⟨a0, a1, a2, a3⟩ := T.cells_4 HA2.out
    go_wp2_with fail
    refine Calls.mono (HEN.out _ HB2.out) ?_
    rintro e w3 ⟨a3', c3, zs, rfl, hz, hz', hy3, hb3, hc3, hm3⟩
    have HB3 : Hid (Below V.heap.size V w3) := trans2 HB2.out hb3
    have HA3 : Hid (w3.heap[V.heap.size]? = some (.cells (shA st p k a n c) 24 (0, 0))) := T.kept_block hb3 HA2.out
    have HZ : Hid ((Good st p k l → zs = W.shotL st p k l) ∧ W.Bys w3 a3' zs ∧ zs.length ≤ c3 ∧ c3 ≤ maxLen) := ⟨hz, hy3, hc3, hm3⟩
    obtain ⟨zn, hzn⟩ : ∃ zn, zs.length = zn := ⟨_, rfl⟩
    have HZN : Hid (zs.length = zn) := hzn
    rw [hzn]
    clear hb3 a0 a1 a2 a3 hz hz' hy3 hc3 hm3 hzn
    obtain ⟨a0, a1, a2, a3⟩ := T.cells_4 HA3.out
    go_wp2_with fail
    refine Calls.mono (HCH.out _ HB3.out) ?_
    rintro e w4 ⟨rfl, hb4⟩
    have HB4 : Hid (Below V.heap.size V w4) := trans2 HB3.out hb4
    have HA4 : Hid (w4.heap[V.heap.size]? = some (.cells (shA st p k a n c) 24 (0, 0))) := T.kept_block hb4 HA3.out
    have HB34 : Hid (Below w3.heap.size w3 w4) := hb4
    clear hb4 a0 a1 a2 a3
    go_wp2_with fail
    have HB7 : Hid (Below V.heap.size V w4) := HB4.out
    obtain ⟨w7, hw7⟩ : ∃ w7, w7 = w4 := ⟨_, rfl⟩
    rw [← hw7] at HB7 ⊢
    clear hw7
    refine Calls.mono (HDD.out _ HB7.out) ?_
    rintro e w8 ⟨st8, p8, k8, la8, lc8, l8, code8, he8, hs8, hr8, hb8, hcap8⟩
    subst he8
    have HB8 : Hid (Below V.heap.size V w8) := trans2 HB7.out hb8
    rcases dec_cases hr8 (by rw [HM.out]; have := HD.out; omega) HBY.out with rfl | ⟨rfl, hg8, hsh8⟩
    · clear hs8 hr8 hb8 hcap8
      go_wp2_with fail
      go_ret
      exact ⟨rfl, HB8.out.alloc HB8.out.size _⟩
    · have HG8 : Hid (Good st8 p8 k8 l8) := hg8
      have HE8 : Hid (W.shotL st8 p8 k8 l8 = xs) := hsh8
      have HS8 : Hid (Ss w8 la8 l8) := hs8
      obtain ⟨L8, hL8⟩ : ∃ L8, l8.length = L8 := ⟨_, rfl⟩
      have HL8 : Hid (l8.length = L8) := hL8
      have HC8 : Hid (L8 ≤ lc8) := by show _ ≤ _; rw [← hL8]; exact hcap8
      rw [hL8]
      clear hs8 hr8 hb8 hcap8 hg8 hsh8 hL8
      have HB9 : Hid (Below V.heap.size V (w8.alloc (.cells (shA st8 p8 k8 la8 L8 lc8) 24))) := HB8.out.alloc HB8.out.size _
      go_wp2_with fail
      refine Calls.mono (W.encode_any st8 p8 k8 la8 lc8 L8 l8 (w8.alloc (.cells (shA st8 p8 k8 la8 L8 lc8) 24)) HL8.out (HG.out.toGround.below HB9.out) (HS8.out.below ((Below.refl _ _).alloc (Nat.le_refl _) _)) (good_sz HG8.out) (by have := good_len HG8.out; rw [HL8.out] at this; unfold maxLen; omega) HC8.out) ?_
      rintro e w10 ⟨a10, c10, ys, he10, hz10, _, hy10, hb10, _, _⟩
      have hys : ys = xs := (hz10 HG8.out).trans HE8.out
      subst hys
      rw [chk_good HG8.out, HM.out] at he10
      subst he10
      have HB10 : Hid (Below V.heap.size V w10) := trans2 HB9.out hb10
      have HSB : Hid _ := W.sameBytes_any a10 da c10 dc ys ys w10 hy10 (HX.out.below HB10.out) (by rw [HM.out]; have := HD.out; unfold maxLen; omega)
      rw [HM.out] at HSB
      clear hz10 hy10 hb10
      go_wp2_with fail
      refine Calls.mono HSB.out ?_
      rintro e w11 ⟨rfl, mm, rfl⟩
      go_wp2_with fail
      go_ret
      exact ⟨by simp, below_drewN HB10.out mm⟩
end Go.Proofs.YtponpkfdkdnaeaaGreatDoor
