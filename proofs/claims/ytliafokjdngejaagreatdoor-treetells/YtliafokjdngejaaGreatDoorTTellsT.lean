/-
  TreeTells: turned of the law.
-/
import Derived.Test.YtliafokjdngejaaGreatDoorTTellsF
import Derived.BigQuiet
import Derived.Deep.QuietTactic
namespace Go.Proofs.YtliafokjdngejaaGreatDoor
open Go.RowKit Go.Maps Go.WideShapes
set_option linter.unusedVariables false
set_option linter.unusedSimpArgs false
attribute [local go_sem ↓] Go.wp_at_zero Go.wp_at_succ

theorem at_row {w : World} {B : Nat} {v : Value} {L : List SnT} (h : w.ownsRow B 101 3 v L.length (L.flatMap SnT.cs)) {i : Nat} {x : SnT} (hx : L[i]? = some x) : ∃ g cap, v = .slice (some ⟨g, 0, none⟩) L.length cap ∧ g < w.heap.size ∧ B ≤ g ∧ i < L.length ∧ w.cell? ⟨g, i * 3, none⟩ = some (.string x.p) ∧ w.cell? ⟨g, i * 3 + 1, none⟩ = some (.string x.d) ∧ w.cell? ⟨g, i * 3 + 2, none⟩ = some (.int .i64 x.v) := by
  have hi := (List.getElem?_eq_some_iff.1 hx).1
  obtain ⟨g, cap, rfl⟩ := form_n h (by omega)
  exact ⟨g, cap, rfl, (h.lt g rfl).2, (h.lt g rfl).1, hi, sn_cell (j := 0) h hx rfl, sn_cell (j := 1) h hx rfl, sn_cell (j := 2) h hx rfl⟩

theorem chg_set3 (w : World) (g o : Nat) (a b c : Value) (n cap : Nat) : Chg w (((w.setCell ⟨g, o, none⟩ a).setCell ⟨g, o + 1, none⟩ b).setCell ⟨g, o + 2, none⟩ c) (fun j => (Value.slice (some ⟨g, 0, none⟩) n cap).ownBlock = some j) :=
  (((Chg.set w ⟨g, o, none⟩ a).trans (Chg.set _ ⟨g, o + 1, none⟩ b)).trans (Chg.set _ ⟨g, o + 2, none⟩ c)).mono (fun j _ e => by rw [show j = g from e]; rfl)
set_option maxHeartbeats 8000000 in
set_option maxRecDepth 100000 in
theorem turned_any (B1 B2 : Nat) (v0 cV : Value) (l l' : List SnT) (C : List ChT) (w : World) (hB : B1 ≤ w.heap.size) (hr : w.ownsRow B1 101 3 v0 l.length (l.flatMap SnT.cs)) (hc : w.ownsRow B2 56 4 cV C.length (chCs C)) (hT : Turns l C l') (hl : l.length ≤ 64) (hC : C.length ≤ 64) :
    Calls Tryz.prog 25 #[v0, cV] w fun e w' => ∃ v', e = .returned (.tuple #[v', .bool true]) ∧ w'.ownsRow B1 101 3 v' l'.length (l'.flatMap SnT.cs) ∧ (∀ k, v'.ownBlock = some k → v0.ownBlock = some k ∨ w.heap.size ≤ k) ∧ Chg w w' (fun k => v0.ownBlock = some k) := by
  obtain ⟨i0, hi0, hz0, hz1, hz2⟩ := info_parts Tryz.infoSe
  obtain ⟨f, f0, fn, hf⟩ := hT.seq
  have HFL : Hid (∀ k, k ≤ C.length → (f k).length ≤ 64 + k) := fun k => by
    induction k with
    | zero => intro _; rw [f0]; omega
    | succ k ih =>
      intro hk
      have := (hf k C[k] (List.getElem?_eq_getElem (by omega))).len
      have := ih (by omega)
      omega
  have HF : Hid (∀ k c, C[k]? = some c → Turn (f k) c (f (k + 1))) := hf
  have HFN : Hid (f C.length = l') := fn
  have HRW : Hid (w.ownsRow B1 101 3 v0 (f 0).length ((f 0).flatMap SnT.cs)) := by rw [f0]; exact hr
  have HR0 : Hid (w.ownsRow B1 101 3 v0 l.length (l.flatMap SnT.cs)) := hr
  obtain ⟨ca, cc, rfl⟩ := slice_of hc
  have HC : Hid (w.ownsRow B2 56 4 (.slice ca C.length cc) C.length (chCs C)) := hc
  obtain ⟨NC, hNC⟩ : ∃ N, C.length = N := ⟨_, rfl⟩
  have HNC : Hid (C.length = NC) := hNC
  rw [hNC] at hC ⊢
  clear hr hc hT f0 fn hf hl hNC
  go_enter Tryz.func25, Tryz.ntmps25
  go_wp2_with fail
  go_loopw [0, 6] (fun v i wr => ∃ k : Nat, i = .int .i64 k ∧ k ≤ NC ∧ Hid (wr.ownsRow B1 101 3 v (f k).length ((f k).flatMap SnT.cs)) ∧ Hid (∀ j, v.ownBlock = some j → v0.ownBlock = some j ∨ w.heap.size ≤ j) ∧ Hid (Chg w wr (fun j => v0.ownBlock = some j))) (fun _ i _ => NC - (intOf i).toNat)
  case atStart => exact ⟨0, rfl, Nat.zero_le _, HRW.out, fun j hj => .inl hj, Chg.refl _ _⟩
  case round =>
    obtain ⟨k, rfl, hk, HR, HU, HCH⟩ := hrel
    by_cases hlt : k < NC
    · have hlt' : (k : Int) < (NC : Int) := by omega
      obtain ⟨c, hcx⟩ : ∃ c, C[k]? = some c := ⟨C[k]'(by rw [HNC.out]; exact hlt), List.getElem?_eq_getElem _⟩
      have hCr : wr.ownsRow B2 56 4 (.slice ca C.length cc) C.length (chCs C) := ch_keep HC.out HR0.out HCH.out
      obtain ⟨cg, cap3, e3⟩ := form_n hCr (by rw [HNC.out]; omega)
      obtain ⟨rfl, rfl⟩ : ca = some ⟨cg, 0, none⟩ ∧ cc = cap3 := by simpa using e3
      have hce : ∀ j v, c.cells[j]? = some v → wr.cell? ⟨cg, k * 4 + j, none⟩ = some v := fun j v hv => ch_cell hCr hcx hv
      have hcl : cg < wr.heap.size := (hCr.lt cg rfl).2
      have c0 : wr.cell? ⟨cg, k * 4, none⟩ = some (.int .i64 c.k) := hce 0 _ rfl
      have c1 := hce 1 _ rfl
      have c2 := hce 2 _ rfl
      have c3 := hce 3 _ rfl
      have hTu := (HF.out k c hcx).inv
      have hLl := HFL.out k (by rw [HNC.out]; omega)
      obtain ⟨L, hL⟩ : ∃ L, f k = L := ⟨_, rfl⟩
      obtain ⟨L', hL'⟩ : ∃ L, f (k + 1) = L := ⟨_, rfl⟩
      rw [hL] at HR hTu hLl
      rw [hL'] at hTu
      have HL' : Hid (f (k + 1) = L') := hL'
      have hL128 : L.length ≤ 128 := by omega
      have hs9 := HCH.out.size
      clear hL hL' hcx e3 hce hCr hLl
      rcases hTu with ⟨p, d, rfl, hno, rfl⟩ | ⟨i, x, d, rfl, hx, hfst, hv0, hv1, rfl⟩ | ⟨i, x, z, rfl, hx, hfst, hz, rfl⟩
      · have HAT : Hid _ := atT_any B1 u0 L p (-1) wr HR.out (by omega) (.inr ⟨hno, rfl⟩)
        clear hno
        go_wp2_with fail
        refine Calls.mono HAT.out ?_
        rintro e w' ⟨rfl, hw'⟩
        have hw9 := hw'.symm
        subst hw9
        clear hw'
        go_upto_region 5 with fail
        go_region
        obtain ⟨w5, hw5⟩ : ∃ y, (wr.alloc (.cells #[.string p, .string d, .int .i64 0] 101)).drew = y := ⟨_, rfl⟩
        obtain ⟨nb, hnb⟩ : ∃ y, wr.heap.size = y := ⟨_, rfl⟩
        have hb5 : Below wr.heap.size wr w5 := by rw [← hw5]; exact below_drew ((Below.refl _ _).alloc (Nat.le_refl _) _)
        have HX5 : Hid (w5.heap[nb]? = some (.cells #[.string p, .string d, .int .i64 0] 101 (0, 0))) := by rw [← hw5, ← hnb]; exact heap_alloc_new _ _
        have HR5 : Hid (w5.ownsRow B1 101 3 u0 L.length (L.flatMap SnT.cs)) := owns_chg HR.out (Chg.of_below hb5 (fun _ => False)) (fun _ _ => id)
        have HC5 : Hid (Chg wr w5 (fun j => u0.ownBlock = some j)) := Chg.of_below hb5 _
        have HK5 : Hid (w5.cell? ⟨cg, k * 4, none⟩ = some (.int .i64 1)) := by
          show _ = _
          rw [hb5.cell (p := ⟨cg, k * 4, none⟩) hcl]
          exact c0
        have HNB : Hid (wr.heap.size = nb) := hnb
        have hcl5 : cg < w5.heap.size := Nat.lt_of_lt_of_le hcl hb5.size
        rw [hw5, hnb]
        clear hw5 hnb c0 c1 c2 c3 hb5
        have c0 := HK5.out
        obtain ⟨b0, b1, b2⟩ := cells_3 HX5.out
        have hnl5 : nb < w5.heap.size := (Array.getElem?_eq_some_iff.1 HX5.out).1
        have hB5 : B1 ≤ w5.heap.size := Nat.le_trans hB (Nat.le_trans hs9 HC5.out.size)
        go_upto_region 11 with fail
        go_wp2_with (first
          | (at_builtin; refine wpList_append_lies _ rfl _ _ _ rfl B1 101 i0 _ 3 40 Tryz.underlying66 hi0 hz0 hz1 hz2 rfl (by omega) u0 L.length (L.flatMap SnT.cs) rfl (World.ownsRow.alloc HR5.out _) ⟨w5.heap.size, 0, none⟩ 1 1 [.string p, .string d, .int .i64 0] rfl rfl (World.news_of_block (cs := #[.string p, .string d, .int .i64 0]) (t := 101) (fr := (0, 0)) (heap_alloc_new w5 _)) (by simp [Value.oneCell']) (by omega) (by unfold maxLen; omega) (by omega) (by simp; omega) (w5.heap.size + 1) (by simp) ?_
             intro g4 cap4 w9 hown9 hgrow9 hat9 hlt9
             have HN9 : Hid (w9.ownsRow B1 101 3 (.slice (some ⟨g4, 0, none⟩) (L.length + 1) cap4) (L.length + 1) (L.flatMap SnT.cs ++ [.string p, .string d, .int .i64 0])) := hown9
             have HC9 : Hid (Chg wr w9 (fun j => u0.ownBlock = some j)) := HC5.out.trans ((Chg.alloc _ _ _).trans (Chg.grown hgrow9))
             have HAT9 : Hid _ := hat9
             clear hown9 hgrow9 hat9 hlt9)
          | fail)
        go_roundw
        case rel => exact ⟨k + 1, by go_num, by omega, by show World.ownsRow _ _ _ _ _ _ _; rw [HL'.out, List.flatMap_append, List.length_append]; have h9 := HN9.out; simpa using h9, own_app (wr := wr) HU.out HAT9.out (by have := HC5.out.size; omega), chgV HCH.out HU.out HC9.out⟩
        case measure => simp [intOf]; omega
      · have HAT : Hid _ := atT_any B1 u0 L x.p i wr HR.out (by omega) (.inl ⟨i, x, hx, rfl, hfst, rfl⟩)
        obtain ⟨g, cap, rfl, hgr, hgB, hil, _⟩ := at_row HR.out hx
        have HX : Hid (L[i]? = some x) := hx
        clear hx hfst
        go_wp2_with fail
        refine Calls.mono HAT.out ?_
        rintro e w' ⟨rfl, hw'⟩
        have hw9 := hw'.symm
        subst hw9
        clear hw'
        go_upto_region 5 with fail
        go_region
        obtain ⟨w5, hw5⟩ : ∃ y, (wr.alloc (.cells #[.string x.p, .string d, .int .i64 (x.v + 1)] 101)).drew = y := ⟨_, rfl⟩
        obtain ⟨nb, hnb⟩ : ∃ y, wr.heap.size = y := ⟨_, rfl⟩
        have hb5 : Below wr.heap.size wr w5 := by rw [← hw5]; exact below_drew ((Below.refl _ _).alloc (Nat.le_refl _) _)
        have HX5 : Hid (w5.heap[nb]? = some (.cells #[.string x.p, .string d, .int .i64 (x.v + 1)] 101 (0, 0))) := by rw [← hw5, ← hnb]; exact heap_alloc_new _ _
        have HR5 : Hid (w5.ownsRow B1 101 3 (.slice (some ⟨g, 0, none⟩) L.length cap) L.length (L.flatMap SnT.cs)) := owns_chg HR.out (Chg.of_below hb5 (fun _ => False)) (fun _ _ => id)
        have HC5 : Hid (Chg wr w5 (fun j => (Value.slice (some ⟨g, 0, none⟩) L.length cap).ownBlock = some j)) := Chg.of_below hb5 _
        have HK5 : Hid (w5.cell? ⟨cg, k * 4, none⟩ = some (.int .i64 2)) := by
          show _ = _
          rw [hb5.cell (p := ⟨cg, k * 4, none⟩) hcl]
          exact c0
        have HNB : Hid (wr.heap.size = nb) := hnb
        have hcl5 : cg < w5.heap.size := Nat.lt_of_lt_of_le hcl hb5.size
        rw [hw5, hnb]
        clear hw5 hnb c0 c1 c2 c3 hb5
        have c0 := HK5.out
        obtain ⟨b0, b1, b2⟩ := cells_3 HX5.out
        have hnl5 : nb < w5.heap.size := (Array.getElem?_eq_some_iff.1 HX5.out).1
        have hB5 : B1 ≤ w5.heap.size := Nat.le_trans hB (Nat.le_trans hs9 HC5.out.size)
        have hwv : IntKind.i64.wrap (x.v + 1) = x.v + 1 := by rw [IntKind.wrap_i64]; omega
        have hi1 : ¬ (i : Int) < 0 := by omega
        have hil' : (i : Int) < (L.length : Int) := by omega
        have a0 : w5.cell? ⟨g, i * 3, none⟩ = some (.string x.p) := sn_cell (j := 0) HR5.out HX.out rfl
        have a1 := sn_cell (j := 1) HR5.out HX.out rfl
        have a2 := sn_cell (j := 2) HR5.out HX.out rfl
        go_upto_region 13 with fail
        go_quiet (fail)
        obtain ⟨w6, hw6⟩ : ∃ y, w5.drewN nq = y := ⟨_, rfl⟩
        have hb6 : Below w5.heap.size w5 w6 := by rw [← hw6]; exact below_dN (Below.refl _ _) _
        have HR6 : Hid (w6.ownsRow B1 101 3 (.slice (some ⟨g, 0, none⟩) L.length cap) L.length (L.flatMap SnT.cs)) := owns_chg HR5.out (Chg.of_below hb6 (fun _ => False)) (fun _ _ => id)
        have HX6 : Hid _ := kept_block hb6 HX5.out
        have HC6 : Hid (Chg wr w6 (fun j => (Value.slice (some ⟨g, 0, none⟩) L.length cap).ownBlock = some j)) := HC5.out.trans (Chg.of_below hb6 _)
        rw [hw6]
        clear hw6 b0 b1 b2 c0 a0 a1 a2
        obtain ⟨b0, b1, b2⟩ := cells_3 HX6.out
        have hnl6 : nb < w6.heap.size := (Array.getElem?_eq_some_iff.1 HX6.out).1
        obtain ⟨cur, hcur, _, hcap⟩ := Fa.owns_block HR6.out
        have hgf : ∀ o, w6.frozen? ⟨g, o, none⟩ = false := fun o => by simp [World.frozen?, hcur]
        have hgl6 : g < w6.heap.size := (Array.getElem?_eq_some_iff.1 hcur).1
        have hne : nb ≠ g := by have := HNB.out; omega
        have hne2 : g ≠ nb := fun e => hne e.symm
        have a0 : w6.cell? ⟨g, i * 3, none⟩ = some (.string x.p) := sn_cell (j := 0) HR6.out HX.out rfl
        have a1 := sn_cell (j := 1) HR6.out HX.out rfl
        have a2 := sn_cell (j := 2) HR6.out HX.out rfl
        go_wp2_with fail
        go_roundw
        case rel => exact ⟨k + 1, by go_num, by omega, by show World.ownsRow _ _ _ _ _ _ _; rw [HL'.out]; have h9 := sn_set HR6.out i ⟨x.p, d, x.v + 1⟩ hil; rw [List.length_set] at h9 ⊢; exact h9, HU.out, chgV HCH.out HU.out (HC6.out.trans (chg_set3 _ _ _ _ _ _ _ _))⟩
        case measure => simp [intOf]; omega
      · have HAT : Hid _ := atT_any B1 u0 L x.p i wr HR.out (by omega) (.inl ⟨i, x, hx, rfl, hfst, rfl⟩)
        obtain ⟨g, cap, rfl, hgr, hgB, hil, _⟩ := at_row HR.out hx
        have HX : Hid (L[i]? = some x) := hx
        obtain ⟨m, hm⟩ : ∃ m, L.length = m + 1 := ⟨L.length - 1, by omega⟩
        have HM : Hid (L.length = m + 1) := hm
        have HZ : Hid (L[m]? = some z) := by
          show _ = _
          rw [List.getLast?_eq_getElem?, hm] at hz
          exact hz
        have hw1 : IntKind.i64.wrap (((m + 1 : Nat) : Int) - 1) = (m : Int) := by rw [IntKind.wrap_i64]; omega
        have hw2 : IntKind.i64.wrap ((m : Int) + 1 - 1) = (m : Int) := by rw [IntKind.wrap_i64]; omega
        rw [hm] at HAT HR HU hL128 hil ⊢
        clear hx hfst hz hm
        go_wp2_with fail
        refine Calls.mono HAT.out ?_
        rintro e w' ⟨rfl, hw'⟩
        have hw9 := hw'.symm
        subst hw9
        clear hw'
        go_upto_region 5 with fail
        go_region
        obtain ⟨w5, hw5⟩ : ∃ y, (wr.alloc (.cells #[.string x.p, .string ⟨#[]⟩, .int .i64 x.v] 101)).drew = y := ⟨_, rfl⟩
        obtain ⟨nb, hnb⟩ : ∃ y, wr.heap.size = y := ⟨_, rfl⟩
        have hb5 : Below wr.heap.size wr w5 := by rw [← hw5]; exact below_drew ((Below.refl _ _).alloc (Nat.le_refl _) _)
        have HX5 : Hid (w5.heap[nb]? = some (.cells #[.string x.p, .string ⟨#[]⟩, .int .i64 x.v] 101 (0, 0))) := by rw [← hw5, ← hnb]; exact heap_alloc_new _ _
        have HR5 : Hid (w5.ownsRow B1 101 3 (.slice (some ⟨g, 0, none⟩) (m + 1) cap) (m + 1) (L.flatMap SnT.cs)) := owns_chg HR.out (Chg.of_below hb5 (fun _ => False)) (fun _ _ => id)
        have HC5 : Hid (Chg wr w5 (fun j => (Value.slice (some ⟨g, 0, none⟩) (m + 1) cap).ownBlock = some j)) := Chg.of_below hb5 _
        have HK5 : Hid (w5.cell? ⟨cg, k * 4, none⟩ = some (.int .i64 3)) := by
          show _ = _
          rw [hb5.cell (p := ⟨cg, k * 4, none⟩) hcl]
          exact c0
        have HNB : Hid (wr.heap.size = nb) := hnb
        have hcl5 : cg < w5.heap.size := Nat.lt_of_lt_of_le hcl hb5.size
        rw [hw5, hnb]
        clear hw5 hnb c0 c1 c2 c3 hb5
        have c0 := HK5.out
        obtain ⟨b0, b1, b2⟩ := cells_3 HX5.out
        have hnl5 : nb < w5.heap.size := (Array.getElem?_eq_some_iff.1 HX5.out).1
        have hB5 : B1 ≤ w5.heap.size := Nat.le_trans hB (Nat.le_trans hs9 HC5.out.size)
        have hi1 : ¬ (i : Int) < 0 := by omega
        have hil' : (i : Int) < ((m + 1 : Nat) : Int) := by omega
        have a0 : w5.cell? ⟨g, i * 3, none⟩ = some (.string x.p) := sn_cell (j := 0) (by rw [HM.out]; exact HR5.out) HX.out rfl
        have a1 : w5.cell? ⟨g, i * 3 + 1, none⟩ = some (.string x.d) := sn_cell (j := 1) (by rw [HM.out]; exact HR5.out) HX.out rfl
        have a2 : w5.cell? ⟨g, i * 3 + 2, none⟩ = some (.int .i64 x.v) := sn_cell (j := 2) (by rw [HM.out]; exact HR5.out) HX.out rfl
        go_upto_region 17 with fail
        go_quiet (fail)
        obtain ⟨w6, hw6⟩ : ∃ y, w5.drewN nq = y := ⟨_, rfl⟩
        have hb6 : Below w5.heap.size w5 w6 := by rw [← hw6]; exact below_dN (Below.refl _ _) _
        have HR6 : Hid (w6.ownsRow B1 101 3 (.slice (some ⟨g, 0, none⟩) (m + 1) cap) (m + 1) (L.flatMap SnT.cs)) := owns_chg HR5.out (Chg.of_below hb6 (fun _ => False)) (fun _ _ => id)
        have HX6 : Hid _ := kept_block hb6 HX5.out
        have HC6 : Hid (Chg wr w6 (fun j => (Value.slice (some ⟨g, 0, none⟩) (m + 1) cap).ownBlock = some j)) := HC5.out.trans (Chg.of_below hb6 _)
        rw [hw6]
        clear hw6 b0 b1 b2 c0 a0 a1 a2
        obtain ⟨b0, b1, b2⟩ := cells_3 HX6.out
        have hnl6 : nb < w6.heap.size := (Array.getElem?_eq_some_iff.1 HX6.out).1
        obtain ⟨cur, hcur, _, hcap⟩ := Fa.owns_block HR6.out
        have hgf : ∀ o, w6.frozen? ⟨g, o, none⟩ = false := fun o => by simp [World.frozen?, hcur]
        have hgl6 : g < w6.heap.size := (Array.getElem?_eq_some_iff.1 hcur).1
        have hne : nb ≠ g := by have := HNB.out; omega
        have hne2 : g ≠ nb := fun e => hne e.symm
        have h6 : w6.ownsRow B1 101 3 (.slice (some ⟨g, 0, none⟩) L.length cap) L.length (L.flatMap SnT.cs) := by rw [HM.out]; exact HR6.out
        have a0 : w6.cell? ⟨g, i * 3, none⟩ = some (.string x.p) := sn_cell (j := 0) h6 HX.out rfl
        have a1 : w6.cell? ⟨g, i * 3 + 1, none⟩ = some (.string x.d) := sn_cell (j := 1) h6 HX.out rfl
        have a2 : w6.cell? ⟨g, i * 3 + 2, none⟩ = some (.int .i64 x.v) := sn_cell (j := 2) h6 HX.out rfl
        have z0 : w6.cell? ⟨g, m * 3, none⟩ = some (.string z.p) := sn_cell (j := 0) h6 HZ.out rfl
        have z1 : w6.cell? ⟨g, m * 3 + 1, none⟩ = some (.string z.d) := sn_cell (j := 1) h6 HZ.out rfl
        have z2 : w6.cell? ⟨g, m * 3 + 2, none⟩ = some (.int .i64 z.v) := sn_cell (j := 2) h6 HZ.out rfl
        have H6 : Hid _ := h6
        have hmc : m ≤ cap := by omega
        clear h6
        go_wp2_with fail
        go_roundw
        case rel =>
          refine ⟨k + 1, by go_num, by omega, ?_, ?_, chgV HCH.out HU.out (HC6.out.trans (chg_set3 _ _ _ _ _ _ _ _))⟩
          · show World.ownsRow _ _ _ _ _ _ _
            rw [HL'.out]
            have h9 := sn_set H6.out i z (by rw [HM.out]; exact hil)
            have hl9 : (L.set i z).length = m + 1 := by rw [List.length_set]; exact HM.out
            rw [hl9] at h9
            have h8 := row_short h9
            rw [flat_dropLast _ m hl9] at h8
            rw [List.length_dropLast, hl9, Nat.add_sub_cancel]
            exact h8
          · exact fun j hj => HU.out j hj
        case measure => simp [intOf]; omega
    · obtain rfl : k = NC := by omega
      go_wp2_with fail
      go_ret2
      refine ⟨_, rfl, ?_, HU.out, HCH.out⟩
      have h9 := HR.out
      rw [← HNC.out, HFN.out] at h9
      exact h9
end Go.Proofs.YtliafokjdngejaaGreatDoor
