/-
  note: lists that rise.
-/
import Derived.Test.YtdjfeomdiljaeaaGreatDoorNtChk
import Derived.Deep.RegionHeld3
import Derived.Deep.RegionHeld2
namespace Go.Proofs.YtdjfeomdiljaeaaGreatDoor
open Go.RowKit
set_option linter.unusedVariables false
set_option linter.unusedSimpArgs false

def Rise (l : List Int) : Prop := ∀ (j : Nat) (x y : Int), l[j]? = some x → l[j + 1]? = some y → x < y
theorem must_yes (w : World) : Calls Tryz.prog 70 #[.bool true] w fun e w' => e = .returned (.tuple #[]) ∧ w' = w := (must_ck true w).mono fun e w' h => ⟨h.1.elim (fun g => g.1) (fun g => absurd rfl g.2), h.2⟩
theorem must_no (w : World) : Calls Tryz.prog 70 #[.bool false] w fun e w' => e = .panicked PN ∧ w' = w := (must_ck false w).mono fun e w' h => ⟨h.1.elim (fun g => absurd g.2 (by decide)) (fun g => g.1), h.2⟩
theorem keyWa (n : Int) (c1 c2 c3 : Value) (w : World) : Calls Tryz.prog 212 #[.agg #[.int .i64 n, c1, c2, c3]] w fun e w' => e = .returned (.int .i64 n) ∧ Below w.heap.size w w' := by
  have hb := heap_alloc_new w (.cells #[.int .i64 n, c1, c2, c3] 85)
  obtain ⟨c0, _⟩ := cells_4N hb
  clear hb
  go_enter Tryz.func212, Tryz.ntmps212
  go_wp2_with fail
  go_ret
  exact ⟨rfl, (Below.refl _ _).alloc (Nat.le_refl _) _⟩
theorem keyIt (n : Int) (c1 c2 c3 c4 : Value) (w : World) : Calls Tryz.prog 231 #[.agg #[.int .i64 n, c1, c2, c3, c4]] w fun e w' => e = .returned (.int .i64 n) ∧ Below w.heap.size w w' := by
  have hb := heap_alloc_new w (.cells #[.int .i64 n, c1, c2, c3, c4] 92)
  obtain ⟨c0, _⟩ := cells_5N hb
  clear hb
  go_enter Tryz.func231, Tryz.ntmps231
  go_wp2_with fail
  go_ret
  exact ⟨rfl, (Below.refl _ _).alloc (Nat.le_refl _) _⟩
theorem keyInt (n : Int) (w : World) : Calls Tryz.prog 285 #[.int .i64 n] w fun e w' => e = .returned (.int .i64 n) ∧ Below w.heap.size w w' := by
  go_enter Tryz.func285, Tryz.ntmps285
  go_wp2_with fail
  go_ret
  exact ⟨rfl, Below.refl _ _⟩
set_option maxHeartbeats 6400000 in
set_option maxRecDepth 100000 in
theorem riseInt (a : Option Addr) (c : Nat) (L : List Int) (w : World) (hL : RowC w a 1 (L.map intC)) : Calls Tryz.prog 284 #[.slice a L.length c, .func (.func 285) #[] #[]] w (CK (Rise (L.map fun x => x)) w) := by
  have HL : Hid (RowC w a 1 (L.map intC)) := hL
  obtain ⟨ok, hok⟩ : ∃ ok : Prop, Rise (L.map fun x => x) = ok := ⟨_, rfl⟩
  have HOK : Hid (ok = Rise (L.map fun x => x)) := hok.symm
  obtain ⟨m, hm⟩ : ∃ m, L.length = m := ⟨_, rfl⟩
  have HM : Hid (L.length = m) := hm
  have hlen := hL.len
  rw [hm] at hlen
  rw [hok, hm]
  clear hok hm hL
  go_enter Tryz.func284, Tryz.ntmps284
  go_wp2_with fail
  go_loopw [4] (fun iv wr => ∃ i : Nat, iv = .int .i64 i ∧ 1 ≤ i ∧ (i ≤ m ∨ i = 1) ∧ Hid (∀ j x y, j + 1 < i → L[j]? = some x → L[j + 1]? = some y → (fun x => x) x < (fun x => x) y) ∧ Hid (Below w.heap.size w wr)) (fun iv _ => m + 1 - (intOf iv).toNat)
  case atStart => exact ⟨1, rfl, Nat.le_refl _, .inr rfl, fun j x y h => absurd h (by omega), Below.refl _ _⟩
  case round =>
    obtain ⟨i, rfl, hi1, him, HDo, HBr⟩ := hrel
    by_cases hlt : i < m
    · have hlt' : (i : Int) < (m : Int) := by omega
      obtain ⟨r, hr⟩ : ∃ r, r + 1 = i := ⟨i - 1, by omega⟩
      have HRI : Hid (r + 1 = i) := hr
      obtain ⟨x, hx⟩ : ∃ x, L[i]? = some x := ⟨L[i]'(by rw [HM.out]; exact hlt), List.getElem?_eq_getElem _⟩
      obtain ⟨y, hy⟩ : ∃ y, L[r]? = some y := ⟨L[r]'(by rw [HM.out]; omega), List.getElem?_eq_getElem _⟩
      have HX : Hid (L[i]? = some x) := hx
      have HY : Hid (L[r]? = some y) := hy
      obtain ⟨b, o, e0, _⟩ := (HL.out.below HBr.out).at1 (map_at hx)
      subst e0
      have HSV : Hid (∀ V : World, Below wr.heap.size wr V → V.cell? ⟨b, o + r, none⟩ = some (.int .i64 y) ∧ V.cell? ⟨b, o + i, none⟩ = some (.int .i64 x)) := fun V hb => by
        obtain ⟨b', o', e1, x0⟩ := (HL.out.below (xtransN HBr.out hb)).at1 (map_at HX.out)
        obtain ⟨b2, o2, e2, y0⟩ := (HL.out.below (xtransN HBr.out hb)).at1 (map_at HY.out)
        simp only [Option.some.injEq, Addr.mk.injEq, and_true] at e1 e2
        obtain ⟨rfl, rfl⟩ := e1
        obtain ⟨rfl, rfl⟩ := e2
        exact ⟨y0, x0⟩
      have hw1 : IntKind.i64.wrap ((i : Int) - 1) = (r : Int) := by rw [IntKind.wrap_i64]; omega
      have hw2 : (0 : Int) ≤ (r : Int) := by omega
      have hw3 : (r : Int) < (m : Int) := by omega
      clear hx hy hr
      obtain ⟨y0, x0⟩ := HSV.out wr (Below.refl _ _)
      by_cases hk : y < x
      · have HKK : Hid (y < x) := hk
        have HDK : Hid (decide (y < x) = true) := decide_eq_true hk
        go_upto_region 3 with fail
        dsimp (config := { zetaDelta := true }) only
        have HBN : Hid (Below wr.heap.size wr wr) := Below.refl _ _
        go_region_held2 (fun V => V.cell? ⟨b, o + r, none⟩ = some (.int .i64 y) ∧ V.cell? ⟨b, o + i, none⟩ = some (.int .i64 x))
            (first
            | (refine HSV.out _ ?_; repeat (first | exact Below.refl _ _ | exact HBN.out | refine below_drewN ?_ _ | refine below_drew ?_))
            | go_keep)
            (first
            | (go_at_call 285; refine Calls.mono (keyInt _ _) ?_; rintro e wn ⟨rfl, hbn⟩
               have HBM : Hid (Below wr.heap.size wr wn) := (by first | exact xtransN HBN.out hbn | exact xtransN (below_drew HBN.out) hbn)
               clear hbn HBN
               have HBN : Hid (Below wr.heap.size wr wn) := HBM.out
               clear HBM)
            | (go_at_call 70; first | rw [HDK.out] | skip
               refine Calls.mono (must_yes _) ?_; rintro e wm ⟨rfl, rfl⟩)
            | fail)
        go_wp2_with fail
        go_roundw
        case rel => exact ⟨i + 1, by go_num, by omega, .inl (by omega), fun j p u hj hp hu => (by
            by_cases e : j = r
            · subst e
              rw [HY.out] at hp
              have hq := HRI.out
              rw [hq, HX.out] at hu
              cases hp
              cases hu
              exact HKK.out
            · exact HDo.out j p u (by have := HRI.out; omega) hp hu), xtransN HBr.out HBN.out⟩
        case measure => simp [intOf]; omega
      · have HNR : Hid (¬ Rise (L.map fun x => x)) := fun g => hk (g r _ _ (by rw [List.getElem?_map, HY.out]; rfl) (by rw [HRI.out, List.getElem?_map, HX.out]; rfl))
        have HDK : Hid (decide (y < x) = false) := decide_eq_false hk
        go_upto_region 3 with fail
        dsimp (config := { zetaDelta := true }) only
        have HBN : Hid (Below wr.heap.size wr wr) := Below.refl _ _
        go_region_held2 (fun V => V.cell? ⟨b, o + r, none⟩ = some (.int .i64 y) ∧ V.cell? ⟨b, o + i, none⟩ = some (.int .i64 x))
            (first
            | (refine HSV.out _ ?_; repeat (first | exact Below.refl _ _ | exact HBN.out | refine below_drewN ?_ _ | refine below_drew ?_))
            | go_keep)
            (first
            | (go_at_call 285; refine Calls.mono (keyInt _ _) ?_; rintro e wn ⟨rfl, hbn⟩
               have HBM : Hid (Below wr.heap.size wr wn) := (by first | exact xtransN HBN.out hbn | exact xtransN (below_drew HBN.out) hbn)
               clear hbn HBN
               have HBN : Hid (Below wr.heap.size wr wn) := HBM.out
               clear HBM)
            | (go_at_call 70; first | rw [HDK.out] | skip
               refine Calls.mono (must_ck false _) ?_; rintro e wm ⟨⟨rfl, hm⟩ | ⟨rfl, hm⟩, rfl⟩
               rotate_left
               · exact ⟨rfl, .inr ⟨rfl, by rw [HOK.out]; exact fun g => HNR.out g⟩, xtransN HBr.out HBN.out⟩
               have HMF : Hid (false = true) := hm
               clear hm)
            | fail)
        exact absurd HMF.out (by decide)
    · have hlt' : ¬ (i : Int) < (m : Int) := by omega
      go_wp2_with fail
      exact bodyPost_end (results_none rfl _ _ _) rfl ⟨.inl ⟨rfl, by
        rw [HOK.out]
        intro j x y hx hy
        rw [List.getElem?_map] at hx hy
        obtain ⟨p, hp, rfl⟩ := Option.map_eq_some_iff.1 hx
        obtain ⟨u, hu, rfl⟩ := Option.map_eq_some_iff.1 hy
        have h1 := (List.getElem?_eq_some_iff.1 hu).1
        have h2 := HM.out
        exact HDo.out j p u (by omega) hp hu⟩, HBr.out⟩
set_option maxHeartbeats 6400000 in
set_option maxRecDepth 100000 in
theorem riseWa (a : Option Addr) (c : Nat) (L : List WaN) (w : World) (hL : RowC w a 4 (L.map WaN.cl)) : Calls Tryz.prog 211 #[.slice a L.length c, .func (.func 212) #[] #[]] w (CK (Rise (L.map fun x => x.i)) w) := by
  have HL : Hid (RowC w a 4 (L.map WaN.cl)) := hL
  obtain ⟨ok, hok⟩ : ∃ ok : Prop, Rise (L.map fun x => x.i) = ok := ⟨_, rfl⟩
  have HOK : Hid (ok = Rise (L.map fun x => x.i)) := hok.symm
  obtain ⟨m, hm⟩ : ∃ m, L.length = m := ⟨_, rfl⟩
  have HM : Hid (L.length = m) := hm
  have hlen := hL.len
  rw [hm] at hlen
  rw [hok, hm]
  clear hok hm hL
  go_enter Tryz.func211, Tryz.ntmps211
  go_wp2_with fail
  go_loopw [4] (fun iv wr => ∃ i : Nat, iv = .int .i64 i ∧ 1 ≤ i ∧ (i ≤ m ∨ i = 1) ∧ Hid (∀ j x y, j + 1 < i → L[j]? = some x → L[j + 1]? = some y → (fun x => x.i) x < (fun x => x.i) y) ∧ Hid (Below w.heap.size w wr)) (fun iv _ => m + 1 - (intOf iv).toNat)
  case atStart => exact ⟨1, rfl, Nat.le_refl _, .inr rfl, fun j x y h => absurd h (by omega), Below.refl _ _⟩
  case round =>
    obtain ⟨i, rfl, hi1, him, HDo, HBr⟩ := hrel
    by_cases hlt : i < m
    · have hlt' : (i : Int) < (m : Int) := by omega
      obtain ⟨r, hr⟩ : ∃ r, r + 1 = i := ⟨i - 1, by omega⟩
      have HRI : Hid (r + 1 = i) := hr
      obtain ⟨x, hx⟩ : ∃ x, L[i]? = some x := ⟨L[i]'(by rw [HM.out]; exact hlt), List.getElem?_eq_getElem _⟩
      obtain ⟨y, hy⟩ : ∃ y, L[r]? = some y := ⟨L[r]'(by rw [HM.out]; omega), List.getElem?_eq_getElem _⟩
      have HX : Hid (L[i]? = some x) := hx
      have HY : Hid (L[r]? = some y) := hy
      obtain ⟨b, o, e0, _⟩ := (HL.out.below HBr.out).at4 (map_at hx)
      subst e0
      have HSV : Hid (∀ V : World, Below wr.heap.size wr V → V.cell? ⟨b, o + r * 4, none⟩ = some (.int .i64 y.i) ∧ V.cell? ⟨b, o + r * 4 + 1, none⟩ = some (.string y.p) ∧ V.cell? ⟨b, o + r * 4 + 2, none⟩ = some (.int .i64 y.k) ∧ V.cell? ⟨b, o + r * 4 + 3, none⟩ = some (.int .i64 y.f) ∧ V.cell? ⟨b, o + i * 4, none⟩ = some (.int .i64 x.i) ∧ V.cell? ⟨b, o + i * 4 + 1, none⟩ = some (.string x.p) ∧ V.cell? ⟨b, o + i * 4 + 2, none⟩ = some (.int .i64 x.k) ∧ V.cell? ⟨b, o + i * 4 + 3, none⟩ = some (.int .i64 x.f)) := fun V hb => by
        obtain ⟨b', o', e1, x0, x1, x2, x3⟩ := (HL.out.below (xtransN HBr.out hb)).at4 (map_at HX.out)
        obtain ⟨b2, o2, e2, y0, y1, y2, y3⟩ := (HL.out.below (xtransN HBr.out hb)).at4 (map_at HY.out)
        simp only [Option.some.injEq, Addr.mk.injEq, and_true] at e1 e2
        obtain ⟨rfl, rfl⟩ := e1
        obtain ⟨rfl, rfl⟩ := e2
        exact ⟨y0, y1, y2, y3, x0, x1, x2, x3⟩
      have hw1 : IntKind.i64.wrap ((i : Int) - 1) = (r : Int) := by rw [IntKind.wrap_i64]; omega
      have hw2 : (0 : Int) ≤ (r : Int) := by omega
      have hw3 : (r : Int) < (m : Int) := by omega
      clear hx hy hr
      obtain ⟨y0, y1, y2, y3, x0, x1, x2, x3⟩ := HSV.out wr (Below.refl _ _)
      by_cases hk : y.i < x.i
      · have HKK : Hid (y.i < x.i) := hk
        have HDK : Hid (decide (y.i < x.i) = true) := decide_eq_true hk
        go_upto_region 3 with fail
        dsimp (config := { zetaDelta := true }) only
        have HBN : Hid (Below wr.heap.size wr wr) := Below.refl _ _
        go_region_held2 (fun V => V.cell? ⟨b, o + r * 4, none⟩ = some (.int .i64 y.i) ∧ V.cell? ⟨b, o + r * 4 + 1, none⟩ = some (.string y.p) ∧ V.cell? ⟨b, o + r * 4 + 2, none⟩ = some (.int .i64 y.k) ∧ V.cell? ⟨b, o + r * 4 + 3, none⟩ = some (.int .i64 y.f) ∧ V.cell? ⟨b, o + i * 4, none⟩ = some (.int .i64 x.i) ∧ V.cell? ⟨b, o + i * 4 + 1, none⟩ = some (.string x.p) ∧ V.cell? ⟨b, o + i * 4 + 2, none⟩ = some (.int .i64 x.k) ∧ V.cell? ⟨b, o + i * 4 + 3, none⟩ = some (.int .i64 x.f))
            (first
            | (refine HSV.out _ ?_; repeat (first | exact Below.refl _ _ | exact HBN.out | refine below_drewN ?_ _ | refine below_drew ?_))
            | go_keep)
            (first
            | (go_at_call 212; refine Calls.mono (keyWa _ _ _ _ _) ?_; rintro e wn ⟨rfl, hbn⟩
               have HBM : Hid (Below wr.heap.size wr wn) := (by first | exact xtransN HBN.out hbn | exact xtransN (below_drew HBN.out) hbn)
               clear hbn HBN
               have HBN : Hid (Below wr.heap.size wr wn) := HBM.out
               clear HBM)
            | (go_at_call 70; first | rw [HDK.out] | skip
               refine Calls.mono (must_yes _) ?_; rintro e wm ⟨rfl, rfl⟩)
            | fail)
        go_wp2_with fail
        go_roundw
        case rel => exact ⟨i + 1, by go_num, by omega, .inl (by omega), fun j p u hj hp hu => (by
            by_cases e : j = r
            · subst e
              rw [HY.out] at hp
              have hq := HRI.out
              rw [hq, HX.out] at hu
              cases hp
              cases hu
              exact HKK.out
            · exact HDo.out j p u (by have := HRI.out; omega) hp hu), xtransN HBr.out HBN.out⟩
        case measure => simp [intOf]; omega
      · have HNR : Hid (¬ Rise (L.map fun x => x.i)) := fun g => hk (g r _ _ (by rw [List.getElem?_map, HY.out]; rfl) (by rw [HRI.out, List.getElem?_map, HX.out]; rfl))
        have HDK : Hid (decide (y.i < x.i) = false) := decide_eq_false hk
        go_upto_region 3 with fail
        dsimp (config := { zetaDelta := true }) only
        have HBN : Hid (Below wr.heap.size wr wr) := Below.refl _ _
        go_region_held2 (fun V => V.cell? ⟨b, o + r * 4, none⟩ = some (.int .i64 y.i) ∧ V.cell? ⟨b, o + r * 4 + 1, none⟩ = some (.string y.p) ∧ V.cell? ⟨b, o + r * 4 + 2, none⟩ = some (.int .i64 y.k) ∧ V.cell? ⟨b, o + r * 4 + 3, none⟩ = some (.int .i64 y.f) ∧ V.cell? ⟨b, o + i * 4, none⟩ = some (.int .i64 x.i) ∧ V.cell? ⟨b, o + i * 4 + 1, none⟩ = some (.string x.p) ∧ V.cell? ⟨b, o + i * 4 + 2, none⟩ = some (.int .i64 x.k) ∧ V.cell? ⟨b, o + i * 4 + 3, none⟩ = some (.int .i64 x.f))
            (first
            | (refine HSV.out _ ?_; repeat (first | exact Below.refl _ _ | exact HBN.out | refine below_drewN ?_ _ | refine below_drew ?_))
            | go_keep)
            (first
            | (go_at_call 212; refine Calls.mono (keyWa _ _ _ _ _) ?_; rintro e wn ⟨rfl, hbn⟩
               have HBM : Hid (Below wr.heap.size wr wn) := (by first | exact xtransN HBN.out hbn | exact xtransN (below_drew HBN.out) hbn)
               clear hbn HBN
               have HBN : Hid (Below wr.heap.size wr wn) := HBM.out
               clear HBM)
            | (go_at_call 70; first | rw [HDK.out] | skip
               refine Calls.mono (must_ck false _) ?_; rintro e wm ⟨⟨rfl, hm⟩ | ⟨rfl, hm⟩, rfl⟩
               rotate_left
               · exact ⟨rfl, .inr ⟨rfl, by rw [HOK.out]; exact fun g => HNR.out g⟩, xtransN HBr.out HBN.out⟩
               have HMF : Hid (false = true) := hm
               clear hm)
            | fail)
        exact absurd HMF.out (by decide)
    · have hlt' : ¬ (i : Int) < (m : Int) := by omega
      go_wp2_with fail
      exact bodyPost_end (results_none rfl _ _ _) rfl ⟨.inl ⟨rfl, by
        rw [HOK.out]
        intro j x y hx hy
        rw [List.getElem?_map] at hx hy
        obtain ⟨p, hp, rfl⟩ := Option.map_eq_some_iff.1 hx
        obtain ⟨u, hu, rfl⟩ := Option.map_eq_some_iff.1 hy
        have h1 := (List.getElem?_eq_some_iff.1 hu).1
        have h2 := HM.out
        exact HDo.out j p u (by omega) hp hu⟩, HBr.out⟩
set_option maxHeartbeats 6400000 in
set_option maxRecDepth 100000 in
theorem riseIt (a : Option Addr) (c : Nat) (L : List ItN) (w : World) (hL : RowC w a 5 (L.map ItN.cl)) : Calls Tryz.prog 230 #[.slice a L.length c, .func (.func 231) #[] #[]] w (CK (Rise (L.map fun x => x.st)) w) := by
  have HL : Hid (RowC w a 5 (L.map ItN.cl)) := hL
  obtain ⟨ok, hok⟩ : ∃ ok : Prop, Rise (L.map fun x => x.st) = ok := ⟨_, rfl⟩
  have HOK : Hid (ok = Rise (L.map fun x => x.st)) := hok.symm
  obtain ⟨m, hm⟩ : ∃ m, L.length = m := ⟨_, rfl⟩
  have HM : Hid (L.length = m) := hm
  have hlen := hL.len
  rw [hm] at hlen
  rw [hok, hm]
  clear hok hm hL
  go_enter Tryz.func230, Tryz.ntmps230
  go_wp2_with fail
  go_loopw [4] (fun iv wr => ∃ i : Nat, iv = .int .i64 i ∧ 1 ≤ i ∧ (i ≤ m ∨ i = 1) ∧ Hid (∀ j x y, j + 1 < i → L[j]? = some x → L[j + 1]? = some y → (fun x => x.st) x < (fun x => x.st) y) ∧ Hid (Below w.heap.size w wr)) (fun iv _ => m + 1 - (intOf iv).toNat)
  case atStart => exact ⟨1, rfl, Nat.le_refl _, .inr rfl, fun j x y h => absurd h (by omega), Below.refl _ _⟩
  case round =>
    obtain ⟨i, rfl, hi1, him, HDo, HBr⟩ := hrel
    by_cases hlt : i < m
    · have hlt' : (i : Int) < (m : Int) := by omega
      obtain ⟨r, hr⟩ : ∃ r, r + 1 = i := ⟨i - 1, by omega⟩
      have HRI : Hid (r + 1 = i) := hr
      obtain ⟨x, hx⟩ : ∃ x, L[i]? = some x := ⟨L[i]'(by rw [HM.out]; exact hlt), List.getElem?_eq_getElem _⟩
      obtain ⟨y, hy⟩ : ∃ y, L[r]? = some y := ⟨L[r]'(by rw [HM.out]; omega), List.getElem?_eq_getElem _⟩
      have HX : Hid (L[i]? = some x) := hx
      have HY : Hid (L[r]? = some y) := hy
      obtain ⟨b, o, e0, _⟩ := (HL.out.below HBr.out).at5 (map_at hx)
      subst e0
      have HSV : Hid (∀ V : World, Below wr.heap.size wr V → V.cell? ⟨b, o + r * 5, none⟩ = some (.int .i64 y.st) ∧ V.cell? ⟨b, o + r * 5 + 1, none⟩ = some (.int .i64 y.af) ∧ V.cell? ⟨b, o + r * 5 + 2, none⟩ = some (.bool y.m) ∧ V.cell? ⟨b, o + r * 5 + 3, none⟩ = some (.slice y.chsA y.chs.length y.chsC) ∧ V.cell? ⟨b, o + r * 5 + 4, none⟩ = some (.slice y.partsA y.parts.length y.partsC) ∧ V.cell? ⟨b, o + i * 5, none⟩ = some (.int .i64 x.st) ∧ V.cell? ⟨b, o + i * 5 + 1, none⟩ = some (.int .i64 x.af) ∧ V.cell? ⟨b, o + i * 5 + 2, none⟩ = some (.bool x.m) ∧ V.cell? ⟨b, o + i * 5 + 3, none⟩ = some (.slice x.chsA x.chs.length x.chsC) ∧ V.cell? ⟨b, o + i * 5 + 4, none⟩ = some (.slice x.partsA x.parts.length x.partsC)) := fun V hb => by
        obtain ⟨b', o', e1, x0, x1, x2, x3, x4⟩ := (HL.out.below (xtransN HBr.out hb)).at5 (map_at HX.out)
        obtain ⟨b2, o2, e2, y0, y1, y2, y3, y4⟩ := (HL.out.below (xtransN HBr.out hb)).at5 (map_at HY.out)
        simp only [Option.some.injEq, Addr.mk.injEq, and_true] at e1 e2
        obtain ⟨rfl, rfl⟩ := e1
        obtain ⟨rfl, rfl⟩ := e2
        exact ⟨y0, y1, y2, y3, y4, x0, x1, x2, x3, x4⟩
      have hw1 : IntKind.i64.wrap ((i : Int) - 1) = (r : Int) := by rw [IntKind.wrap_i64]; omega
      have hw2 : (0 : Int) ≤ (r : Int) := by omega
      have hw3 : (r : Int) < (m : Int) := by omega
      clear hx hy hr
      obtain ⟨y0, y1, y2, y3, y4, x0, x1, x2, x3, x4⟩ := HSV.out wr (Below.refl _ _)
      by_cases hk : y.st < x.st
      · have HKK : Hid (y.st < x.st) := hk
        have HDK : Hid (decide (y.st < x.st) = true) := decide_eq_true hk
        go_upto_region 3 with fail
        dsimp (config := { zetaDelta := true }) only
        have HBN : Hid (Below wr.heap.size wr wr) := Below.refl _ _
        go_region_held2 (fun V => V.cell? ⟨b, o + r * 5, none⟩ = some (.int .i64 y.st) ∧ V.cell? ⟨b, o + r * 5 + 1, none⟩ = some (.int .i64 y.af) ∧ V.cell? ⟨b, o + r * 5 + 2, none⟩ = some (.bool y.m) ∧ V.cell? ⟨b, o + r * 5 + 3, none⟩ = some (.slice y.chsA y.chs.length y.chsC) ∧ V.cell? ⟨b, o + r * 5 + 4, none⟩ = some (.slice y.partsA y.parts.length y.partsC) ∧ V.cell? ⟨b, o + i * 5, none⟩ = some (.int .i64 x.st) ∧ V.cell? ⟨b, o + i * 5 + 1, none⟩ = some (.int .i64 x.af) ∧ V.cell? ⟨b, o + i * 5 + 2, none⟩ = some (.bool x.m) ∧ V.cell? ⟨b, o + i * 5 + 3, none⟩ = some (.slice x.chsA x.chs.length x.chsC) ∧ V.cell? ⟨b, o + i * 5 + 4, none⟩ = some (.slice x.partsA x.parts.length x.partsC))
            (first
            | (refine HSV.out _ ?_; repeat (first | exact Below.refl _ _ | exact HBN.out | refine below_drewN ?_ _ | refine below_drew ?_))
            | go_keep)
            (first
            | (go_at_call 231; refine Calls.mono (keyIt _ _ _ _ _ _) ?_; rintro e wn ⟨rfl, hbn⟩
               have HBM : Hid (Below wr.heap.size wr wn) := (by first | exact xtransN HBN.out hbn | exact xtransN (below_drew HBN.out) hbn)
               clear hbn HBN
               have HBN : Hid (Below wr.heap.size wr wn) := HBM.out
               clear HBM)
            | (go_at_call 70; first | rw [HDK.out] | skip
               refine Calls.mono (must_yes _) ?_; rintro e wm ⟨rfl, rfl⟩)
            | fail)
        go_wp2_with fail
        go_roundw
        case rel => exact ⟨i + 1, by go_num, by omega, .inl (by omega), fun j p u hj hp hu => (by
            by_cases e : j = r
            · subst e
              rw [HY.out] at hp
              have hq := HRI.out
              rw [hq, HX.out] at hu
              cases hp
              cases hu
              exact HKK.out
            · exact HDo.out j p u (by have := HRI.out; omega) hp hu), xtransN HBr.out HBN.out⟩
        case measure => simp [intOf]; omega
      · have HNR : Hid (¬ Rise (L.map fun x => x.st)) := fun g => hk (g r _ _ (by rw [List.getElem?_map, HY.out]; rfl) (by rw [HRI.out, List.getElem?_map, HX.out]; rfl))
        have HDK : Hid (decide (y.st < x.st) = false) := decide_eq_false hk
        go_upto_region 3 with fail
        dsimp (config := { zetaDelta := true }) only
        have HBN : Hid (Below wr.heap.size wr wr) := Below.refl _ _
        go_region_held2 (fun V => V.cell? ⟨b, o + r * 5, none⟩ = some (.int .i64 y.st) ∧ V.cell? ⟨b, o + r * 5 + 1, none⟩ = some (.int .i64 y.af) ∧ V.cell? ⟨b, o + r * 5 + 2, none⟩ = some (.bool y.m) ∧ V.cell? ⟨b, o + r * 5 + 3, none⟩ = some (.slice y.chsA y.chs.length y.chsC) ∧ V.cell? ⟨b, o + r * 5 + 4, none⟩ = some (.slice y.partsA y.parts.length y.partsC) ∧ V.cell? ⟨b, o + i * 5, none⟩ = some (.int .i64 x.st) ∧ V.cell? ⟨b, o + i * 5 + 1, none⟩ = some (.int .i64 x.af) ∧ V.cell? ⟨b, o + i * 5 + 2, none⟩ = some (.bool x.m) ∧ V.cell? ⟨b, o + i * 5 + 3, none⟩ = some (.slice x.chsA x.chs.length x.chsC) ∧ V.cell? ⟨b, o + i * 5 + 4, none⟩ = some (.slice x.partsA x.parts.length x.partsC))
            (first
            | (refine HSV.out _ ?_; repeat (first | exact Below.refl _ _ | exact HBN.out | refine below_drewN ?_ _ | refine below_drew ?_))
            | go_keep)
            (first
            | (go_at_call 231; refine Calls.mono (keyIt _ _ _ _ _ _) ?_; rintro e wn ⟨rfl, hbn⟩
               have HBM : Hid (Below wr.heap.size wr wn) := (by first | exact xtransN HBN.out hbn | exact xtransN (below_drew HBN.out) hbn)
               clear hbn HBN
               have HBN : Hid (Below wr.heap.size wr wn) := HBM.out
               clear HBM)
            | (go_at_call 70; first | rw [HDK.out] | skip
               refine Calls.mono (must_ck false _) ?_; rintro e wm ⟨⟨rfl, hm⟩ | ⟨rfl, hm⟩, rfl⟩
               rotate_left
               · exact ⟨rfl, .inr ⟨rfl, by rw [HOK.out]; exact fun g => HNR.out g⟩, xtransN HBr.out HBN.out⟩
               have HMF : Hid (false = true) := hm
               clear hm)
            | fail)
        exact absurd HMF.out (by decide)
    · have hlt' : ¬ (i : Int) < (m : Int) := by omega
      go_wp2_with fail
      exact bodyPost_end (results_none rfl _ _ _) rfl ⟨.inl ⟨rfl, by
        rw [HOK.out]
        intro j x y hx hy
        rw [List.getElem?_map] at hx hy
        obtain ⟨p, hp, rfl⟩ := Option.map_eq_some_iff.1 hx
        obtain ⟨u, hu, rfl⟩ := Option.map_eq_some_iff.1 hy
        have h1 := (List.getElem?_eq_some_iff.1 hu).1
        have h2 := HM.out
        exact HDo.out j p u (by omega) hp hu⟩, HBr.out⟩
end Go.Proofs.YtdjfeomdiljaeaaGreatDoor
