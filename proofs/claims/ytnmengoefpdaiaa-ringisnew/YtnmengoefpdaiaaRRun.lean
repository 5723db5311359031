/-
  ring: pieces, run.
-/
import Derived.Test.YtnmengoefpdaiaaRFull
namespace Go.Proofs.Ytnmengoefpdaiaa
open Go.RowKit
set_option linter.unusedVariables false
set_option linter.unusedSimpArgs false

set_option maxHeartbeats 1600000 in
theorem pieces_none (b : Nat) (s : Int) (w : World) : Calls Try.prog 32 #[.pointer (some ⟨b, 0, none⟩), .int .i64 s, .int .i64 0] w fun e w' => e = .returned (.tuple #[.slice none 0 0, .slice none 0 0]) ∧ w' = w := by
  go_enter Try.func32, Try.ntmps32
  go_wp2_with fail
  go_ret2
  exact ⟨rfl, rfl⟩
theorem slice_arr (b l h : Nat) (w : World) (h1 : l < h) (h2 : h ≤ 64) : (Instr.sliceAt 59 (.pointer (some ⟨b, 0, none⟩)) (some (.int .i64 l)) (some (.int .i64 h)) (some (.int .i64 h))).run Try.prog w = .ok (.slice (some ⟨b, l * 6, none⟩) (h - l) (h - l)) w := by
  have a1 : Try.prog.underlying 59 = some (.array 64 38) := Try.underlying59
  have hne : h ≠ l := by omega
  have h3 : (h : Int) ≤ 64 := by omega
  have h4 : l ≤ h := by omega
  simp [Instr.sliceAt, Instr.sliceBounds, go_sem, a1, Try.sizeOf38, hne, addr_add, h3, h4]
theorem slice_arr0 (b h : Nat) (w : World) (h2 : h ≤ 64) : (Instr.sliceAt 59 (.pointer (some ⟨b, 0, none⟩)) (some (.int .i64 0)) (some (.int .i64 h)) (some (.int .i64 h))).run Try.prog w = .ok (.slice (some ⟨b, 0, none⟩) h h) w := by
  have a1 : Try.prog.underlying 59 = some (.array 64 38) := Try.underlying59
  have h3 : (h : Int) ≤ 64 := by omega
  simp [Instr.sliceAt, Instr.sliceBounds, go_sem, a1, Try.sizeOf38, addr_add, h3]
set_option maxHeartbeats 1600000 in
theorem pieces_some (b room s n fr to : Nat) (w : World) (c0 : w.cell? ⟨b, 384, none⟩ = some (.int .i64 room)) (h0 : 0 < room) (h1 : room ≤ 64) (hs : s + n ≤ 2147483647) (hn : 0 < n) (hnr : n ≤ room) (hf : (s + 1) % room = fr) (ht : Nat.min (fr + n) room = to) :
    Calls Try.prog 32 #[.pointer (some ⟨b, 0, none⟩), .int .i64 s, .int .i64 n] w fun e w' => e = .returned (.tuple #[.slice (some ⟨b, fr * 6, none⟩) (to - fr) (to - fr), .slice (some ⟨b, 0, none⟩) (n - (to - fr)) (n - (to - fr))]) ∧ ∃ m, w' = w.drewN m := by
  have hr0 : ¬ (room : Int) = 0 := by omega
  have hr1 : ((room : Int) == 0) = false := by simpa using hr0
  have hm : Int.tmod ((s : Int) + 1) (room : Int) = (fr : Int) := by
    rw [Int.tmod_eq_emod_of_nonneg (by omega), ← hf]; rfl
  have hm' : ((s : Int) + 1) % (room : Int) = (fr : Int) := by rw [← hf]; rfl
  have hlt : fr < room := by rw [← hf]; exact Nat.mod_lt _ h0
  have hto : to ≤ room ∧ fr < to ∧ to ≤ fr + n := by rw [← ht]; simp [Nat.min_def]; split <;> omega
  have hmin : min ((fr : Int) + n) (room : Int) = (to : Int) := by rw [← ht]; simp [Nat.min_def, Int.min_def]; split <;> split <;> omega
  obtain ⟨t1, t2, t3⟩ := hto
  have hz : ((n : Int) == 0) = false := by simp; omega
  obtain ⟨rs, hrs⟩ : ∃ rs, n - (to - fr) = rs := ⟨_, rfl⟩
  have hrs' : (n : Int) - ((to : Int) - fr) = (rs : Int) := by omega
  have hrs2 : rs ≤ 64 := by omega
  rw [hrs]
  have hS1 : ∀ w : World, _ := fun w => slice_arr b fr to w t2 (by omega)
  have hS2 : ∀ w : World, _ := fun w => slice_arr0 b rs w hrs2
  clear hf ht hrs
  go_enter Try.func32, Try.ntmps32
  go_wp2_with fail
  go_big_quiet (fail)
  go_wp2_with fail
  go_ret2
  exact ⟨rfl, _, rfl⟩
/-- A ring's entries, each with its ops. -/
theorem RingAt.pents {w : World} {b : Nat} {R : RingT} (h : RingAt w b R) : ∃ P : List PEnt, P.map (·.e) = R.l ∧ (∀ p ∈ P, OwnOps w p.x p.e.ops) ∧ ∀ k p, P[k]? = some p → ∀ j v, p.cells[j]? = some v → w.cell? ⟨b, (R.floor + 1 + k) % R.room * 6 + j, none⟩ = some v := by
  have hx : ∀ k : Nat, ∃ x : Value, ∀ e, R.l[k]? = some e → OwnOps w x e.ops ∧ ∀ j v, (PEnt.cells ⟨e, x⟩)[j]? = some v → w.cell? ⟨b, (R.floor + 1 + k) % R.room * 6 + j, none⟩ = some v := fun k => by
    cases hk : R.l[k]? with
    | none => exact ⟨.bool false, fun e he => by cases he⟩
    | some e =>
      obtain ⟨x, h1, h2⟩ := h.ents k e hk
      exact ⟨x, fun e' he' => by cases he'; exact ⟨h1, h2⟩⟩
  obtain ⟨f, hf⟩ := Classical.axiomOfChoice hx
  refine ⟨R.l.mapIdx (fun k e => ⟨e, f k⟩), ?_, ?_, ?_⟩
  · apply List.ext_getElem?
    intro k
    rw [List.getElem?_map, List.getElem?_mapIdx]
    cases R.l[k]? <;> rfl
  · intro p hp
    rw [List.mem_mapIdx] at hp
    obtain ⟨k, hk, rfl⟩ := hp
    exact (hf k R.l[k] (List.getElem?_eq_getElem hk)).1
  · intro k p hp
    rw [List.getElem?_mapIdx] at hp
    cases hk : R.l[k]? with
    | none => rw [hk] at hp; cases hp
    | some e =>
      rw [hk] at hp
      cases hp
      exact (hf k e hk).2
theorem pent_one {w : World} {P : List PEnt} (h : ∀ p ∈ P, OwnOps w p.x p.e.ops) : ∀ u ∈ rowCs PEnt.cells P, u.oneCell' = true := by
  intro u hu
  simp only [rowCs, List.mem_flatten, List.mem_map] at hu
  obtain ⟨c, ⟨p, hp, rfl⟩, hu⟩ := hu
  obtain ⟨a, n, hx, _⟩ := owns_form (h p hp)
  simp only [PEnt.cells, List.mem_cons, List.not_mem_nil, or_false] at hu
  rcases hu with rfl | rfl | rfl | rfl | rfl | rfl
  · rfl
  · rfl
  · rfl
  · rfl
  · rfl
  · rw [hx]; rfl
theorem Try.infoEn : (Try.prog.info? 38).map (fun i => (i.zero, i.size, i.bytes)) = some (some (.agg #[.int .i64 0, .int .i64 0, .int .i64 0, .int .i64 0, .int .i64 0, .slice none 0 0]), 6, 64) := by kernel_rfl
theorem szEn : (Try.prog.info? 38).map (·.size) = some 6 := by kernel_rfl
/-- make of entries. -/
theorem make_ents (n : Nat) (hn : n ≤ 1000000) : ∃ M : List Value, M.length = n * 6 ∧ ∀ w : World, (Instr.makeSlice 27 (.int .i64 n) (.int .i64 n)).run Try.prog w = .ok (.slice (some ⟨w.heap.size, 0, none⟩) n n) (w.alloc (.cells M.toArray 38)) := by
  obtain ⟨i0, hi, hz0, hz1, hz2⟩ := info_parts Try.infoEn
  refine ⟨(madeCells (Value.cells (.agg #[.int .i64 0, .int .i64 0, .int .i64 0, .int .i64 0, .int .i64 0, .slice none 0 0])) (n * 6)).toList, ?_, fun w => ?_⟩
  · rw [Array.length_toList, size_madeCells]
  · have h := run_make (P := Try.prog) w 27 38 i0 _ Try.underlying27 hi hz0 .i64 .i64 n n (by omega) (Int.le_refl _) (by rw [hz2]; omega) (by omega)
    rw [hz1] at h
    rw [Array.toArray_toList]
    exact h
/-- Entries in a row of their own; their ops lie somewhere. -/
structure EntsAt (w : World) (v : Value) (P : List PEnt) : Prop where
  row : w.ownsRow 0 38 6 v P.length (rowCs PEnt.cells P)
  ops : ∀ p ∈ P, OwnOps w p.x p.e.ops
set_option maxHeartbeats 1600000 in
theorem run_one (b : Nat) (s n : Nat) (hp tp : Option Addr) (w : World) (H : List PEnt) (hH : H.length = n) (hn : n ≤ 64)
    (hpc : ∀ w', Below w.heap.size w w' → Calls Try.prog 32 #[.pointer (some ⟨b, 0, none⟩), .int .i64 s, .int .i64 n] w' fun e w'' => e = .returned (.tuple #[.slice hp n n, .slice tp 0 0]) ∧ ∃ m, w'' = w'.drewN m)
    (hh : 0 < n → ∃ ad, hp = some ad ∧ Ls PEnt.cells 6 w hp H) (hops : ∀ p ∈ H, OwnOps w p.x p.e.ops) :
    Calls Try.prog 23 #[.pointer (some ⟨b, 0, none⟩), .int .i64 s, .int .i64 n] w fun e w' => e = .returned (.slice (some ⟨w.heap.size, 0, none⟩) n n) ∧ EntsAt w' (.slice (some ⟨w.heap.size, 0, none⟩) n n) H ∧ Below w.heap.size w w' := by
  obtain ⟨M, hM, hmk⟩ := make_ents n (by omega)
  have HM : Hid (M.length = n * 6) := hM
  have HP : Hid _ := hpc w (Below.refl _ _)
  have HH : Hid (0 < n → ∃ ad, hp = some ad ∧ Ls PEnt.cells 6 w hp H) := hh
  have HOP : Hid (∀ p ∈ H, OwnOps w p.x p.e.ops) := hops
  have HD : Hid (H.length = n) := hH
  have hdn : n ≤ n := Nat.le_refl _
  clear hpc hh hops hM hH
  go_enter Try.func23, Try.ntmps23
  go_wp2_with fail
  refine Calls.mono HP.out ?_
  rintro e w1 ⟨rfl, m1, rfl⟩
  go_wp2_with (first
    | (skip
       refine wpList_copy_s rfl _ _ _ _ rfl 38 6 (by decide) Try.underlying27 szEn _ _ 0 _ 0 _ rfl rfl w.heap.size 0 _ _ HG2.out [] 0 rfl rfl (fun h => absurd h (by decide)) (Nat.zero_le _) (fun _ h => by cases h) ?_
       intro w3 hg3 hc3
       have HG3 : Hid (w3.heap[w.heap.size]? = some (.cells (splice (splice M 0 (rowCs PEnt.cells H)) 0 []).toArray 38 (0, 0))) := hg3
       have HB3 : Hid (Below w.heap.size w w3) := HB2.out.trans (hc3.below (B := w.heap.size) HB2.out.size (fun k _ e => Nat.le_of_eq e.symm))
       clear hg3 hc3)
    | (skip
       refine wpList_copy_s rfl _ _ _ _ rfl 38 6 (by decide) Try.underlying27 szEn _ _ _ _ _ _ rfl rfl w.heap.size 0 M _ (heap_new' rfl) (rowCs PEnt.cells H) n (Nat.min_self n) ?_ ?_ ?_ ?_ ?_
       · rw [rowCs_len pent_len, HD.out]
       · intro hpos
         rw [rowCs_len pent_len, HD.out] at hpos
         obtain ⟨ad, had, hls⟩ := HH.out (by omega)
         rw [had] at hls
         exact ⟨rfl, ad, had, ls_news pent_len (by decide) (hls.below ((below_drewN (Below.refl _ _) _).alloc (Nat.le_refl _) _))⟩
       · rw [rowCs_len pent_len, HD.out, HM.out]; omega
       · exact pent_one (w := w) (fun p hp => HOP.out p hp)
       intro w2 hg2 hc2
       have HG2 : Hid (w2.heap[w.heap.size]? = some (.cells (splice M 0 (rowCs PEnt.cells H)).toArray 38 (0, 0))) := hg2
       have HB2 : Hid (Below w.heap.size w w2) := ((below_drewN (Below.refl _ _) _).alloc (Nat.le_refl _) _).trans (hc2.below (B := w.heap.size) (by simp) (fun k _ e => Nat.le_of_eq e.symm))
       clear hg2 hc2)
    | fail)
  go_ret
  refine ⟨rfl, ⟨?_, fun p hp => owns_below (HOP.out p hp) HB3.out⟩, HB3.out⟩
  have h2 := HD.out
  have h3 := HM.out
  rw [h2]
  refine owns_of_blk ?_ (by rw [rowCs_len pent_len, h2]) (by unfold maxLen; omega)
  rw [HG3.out]
  congr 3
  have e1 : (rowCs PEnt.cells H).length = M.length := by rw [rowCs_len pent_len, h2, h3]
  unfold splice
  simp [e1]
set_option maxHeartbeats 1600000 in
theorem run_two (b : Nat) (s n d : Nat) (hp tp : Option Addr) (w : World) (H T : List PEnt) (hH : H.length = d) (hT : d + T.length = n) (hn : n ≤ 64) (hlt : d < n)
    (hpc : ∀ w', Below w.heap.size w w' → Calls Try.prog 32 #[.pointer (some ⟨b, 0, none⟩), .int .i64 s, .int .i64 n] w' fun e w'' => e = .returned (.tuple #[.slice hp d d, .slice tp (n - d) (n - d)]) ∧ ∃ m, w'' = w'.drewN m)
    (hh : 0 < d → ∃ ad, hp = some ad ∧ Ls PEnt.cells 6 w hp H) (ht : 0 < n - d → ∃ ad, tp = some ad ∧ Ls PEnt.cells 6 w tp T) (hops : ∀ p ∈ H ++ T, OwnOps w p.x p.e.ops) :
    Calls Try.prog 23 #[.pointer (some ⟨b, 0, none⟩), .int .i64 s, .int .i64 n] w fun e w' => e = .returned (.slice (some ⟨w.heap.size, 0, none⟩) n n) ∧ EntsAt w' (.slice (some ⟨w.heap.size, 0, none⟩) n n) (H ++ T) ∧ Below w.heap.size w w' := by
  obtain ⟨M, hM, hmk⟩ := make_ents n (by omega)
  have HM : Hid (M.length = n * 6) := hM
  have HP : Hid _ := hpc w (Below.refl _ _)
  have HH : Hid (0 < d → ∃ ad, hp = some ad ∧ Ls PEnt.cells 6 w hp H) := hh
  have HT : Hid (0 < n - d → ∃ ad, tp = some ad ∧ Ls PEnt.cells 6 w tp T) := ht
  have HOP : Hid (∀ p ∈ H ++ T, OwnOps w p.x p.e.ops) := hops
  have HD : Hid (H.length = d) := hH
  have HE : Hid (d + T.length = n) := hT
  have hdn : d ≤ n := by omega
  have hne : n ≠ d := by omega
  clear hpc hh ht hops hM hH hT
  go_enter Try.func23, Try.ntmps23
  go_wp2_with fail
  refine Calls.mono HP.out ?_
  rintro e w1 ⟨rfl, m1, rfl⟩
  go_wp2_with (first
    | (skip
       refine wpList_copy_s rfl _ _ _ _ rfl 38 6 (by decide) Try.underlying27 szEn _ _ _ _ _ _ rfl rfl w.heap.size (d * 6) _ _ HG2.out (rowCs PEnt.cells T) (n - d) (Nat.min_self _) ?_ ?_ ?_ ?_ ?_
       · have h1 := HE.out; rw [rowCs_len pent_len]; omega
       · intro hpos
         rw [rowCs_len pent_len] at hpos
         have h1 := HE.out
         obtain ⟨ad, had, hls⟩ := HT.out (by omega)
         rw [had] at hls
         exact ⟨rfl, ad, had, ls_news pent_len (by decide) (hls.below HB2.out)⟩
       · have h1 := HE.out
         have h2 := HD.out
         rw [length_splice _ _ _ (by rw [rowCs_len pent_len, HM.out]; omega), rowCs_len pent_len, HM.out]
         omega
       · exact pent_one (w := w) (fun p hp => HOP.out p (List.mem_append_right _ hp))
       intro w3 hg3 hc3
       have HG3 : Hid (w3.heap[w.heap.size]? = some (.cells (splice (splice M 0 (rowCs PEnt.cells H)) (d * 6) (rowCs PEnt.cells T)).toArray 38 (0, 0))) := hg3
       have HB3 : Hid (Below w.heap.size w w3) := HB2.out.trans (hc3.below (B := w.heap.size) HB2.out.size (fun k _ e => Nat.le_of_eq e.symm))
       clear hg3 hc3)
    | (skip
       refine wpList_copy_s rfl _ _ _ _ rfl 38 6 (by decide) Try.underlying27 szEn _ _ _ _ _ _ rfl rfl w.heap.size 0 M _ (heap_new' rfl) (rowCs PEnt.cells H) d (Nat.min_eq_left hdn) ?_ ?_ ?_ ?_ ?_
       · rw [rowCs_len pent_len, HD.out]
       · intro hpos
         rw [rowCs_len pent_len, HD.out] at hpos
         obtain ⟨ad, had, hls⟩ := HH.out (by omega)
         rw [had] at hls
         exact ⟨rfl, ad, had, ls_news pent_len (by decide) (hls.below ((below_drewN (Below.refl _ _) _).alloc (Nat.le_refl _) _))⟩
       · rw [rowCs_len pent_len, HD.out, HM.out]; omega
       · exact pent_one (w := w) (fun p hp => HOP.out p (List.mem_append_left _ hp))
       intro w2 hg2 hc2
       have HG2 : Hid (w2.heap[w.heap.size]? = some (.cells (splice M 0 (rowCs PEnt.cells H)).toArray 38 (0, 0))) := hg2
       have HB2 : Hid (Below w.heap.size w w2) := ((below_drewN (Below.refl _ _) _).alloc (Nat.le_refl _) _).trans (hc2.below (B := w.heap.size) (by simp) (fun k _ e => Nat.le_of_eq e.symm))
       clear hg2 hc2)
    | fail)
  go_ret
  refine ⟨rfl, ⟨?_, fun p hp => owns_below (HOP.out p hp) HB3.out⟩, HB3.out⟩
  have h1 := HE.out
  have h2 := HD.out
  have h3 := HM.out
  have hl : (H ++ T).length = n := by rw [List.length_append]; omega
  rw [hl]
  refine owns_of_blk ?_ (by rw [rowCs_len pent_len, hl]) (by unfold maxLen; omega)
  rw [HG3.out]
  congr 3
  have e1 : (rowCs PEnt.cells H).length = d * 6 := by rw [rowCs_len pent_len, h2]
  have e2 : (rowCs PEnt.cells T).length = M.length - d * 6 := by rw [rowCs_len pent_len, h3]; omega
  rw [rowCs_append]
  unfold splice
  simp [e1, e2]
theorem mod_add {a i m : Nat} (h : a % m + i < m) : (a + i) % m = a % m + i := by
  rw [Nat.add_mod, Nat.mod_eq_of_lt (a := i) (by omega), Nat.mod_eq_of_lt h]
theorem mod_wrap {a i m : Nat} (hi : i < m) : (a + (m - a % m) + i) % m = i := by
  have h1 := Nat.div_add_mod a m
  have h2 : a % m < m := Nat.mod_lt _ (by omega)
  have h3 : a + (m - a % m) + i = m * (a / m + 1) + i := by rw [Nat.mul_add]; omega
  rw [h3, Nat.mul_add_mod, Nat.mod_eq_of_lt hi]
theorem run_any (b k0 n : Nat) (R : RingT) (w : World) (h : RingAt w b R) (hk : k0 + n ≤ R.l.length) :
    Calls Try.prog 23 #[.pointer (some ⟨b, 0, none⟩), .int .i64 ((R.floor + k0 : Nat) : Int), .int .i64 n] w fun e w' => ∃ P : List PEnt, P.map (·.e) = (R.l.drop k0).take n ∧ e = .returned (.slice (some ⟨w.heap.size, 0, none⟩) n n) ∧ EntsAt w' (.slice (some ⟨w.heap.size, 0, none⟩) n n) P ∧ Below w.heap.size w w' := by
  obtain ⟨P0, hm, ho, hc⟩ := h.pents
  have hl : P0.length = R.l.length := by rw [← hm, List.length_map]
  obtain ⟨P, hP⟩ : ∃ P, (P0.drop k0).take n = P := ⟨_, rfl⟩
  have hPl : P.length = n := by rw [← hP, List.length_take, List.length_drop]; omega
  have hPm : P.map (·.e) = (R.l.drop k0).take n := by rw [← hP, List.map_take, List.map_drop, hm]
  have hPo : ∀ p ∈ P, OwnOps w p.x p.e.ops := fun p hp => ho p (by rw [← hP] at hp; exact List.mem_of_mem_drop (List.mem_of_mem_take hp))
  have hPc : ∀ i p, P[i]? = some p → ∀ j v, p.cells[j]? = some v → w.cell? ⟨b, (R.floor + 1 + (k0 + i)) % R.room * 6 + j, none⟩ = some v := fun i p hi => by
    have hlt := (List.getElem?_eq_some_iff.1 hi).1
    rw [← hP, List.getElem?_take_of_lt (by omega), List.getElem?_drop] at hi
    exact hc (k0 + i) p hi
  have hrm := h.ok.room
  have hft := h.ok.fits
  have hmx : R.floor + R.l.length ≤ 2147483647 := h.ok.max
  clear hc ho hm hl hP
  by_cases h0 : n = 0
  · subst h0
    obtain rfl : P = [] := List.eq_nil_of_length_eq_zero hPl
    refine (run_one b (R.floor + k0) 0 none none w [] rfl (by decide) (fun w' hb => ?_) (fun h => absurd h (by decide)) hPo).mono ?_
    · refine (pieces_none b _ w').mono ?_
      rintro e w'' ⟨rfl, rfl⟩
      exact ⟨rfl, 0, rfl⟩
    · rintro e w' ⟨rfl, he, hb⟩
      exact ⟨[], hPm, rfl, he, hb⟩
  · have hr0 : 0 < R.room := by omega
    obtain ⟨fr, hfr⟩ : ∃ fr, (R.floor + k0 + 1) % R.room = fr := ⟨_, rfl⟩
    obtain ⟨to, hto⟩ : ∃ to, Nat.min (fr + n) R.room = to := ⟨_, rfl⟩
    have hfl : fr < R.room := by rw [← hfr]; exact Nat.mod_lt _ hr0
    have hpc : ∀ w', Below w.heap.size w w' → _ := fun w' hb => pieces_some b R.room (R.floor + k0) n fr to w' (h.below hb).room hr0 hrm (by omega) (by omega) (by omega) hfr hto
    have hto2 : (to = fr + n ∧ fr + n ≤ R.room) ∨ (to = R.room ∧ R.room < fr + n) := by
      rw [← hto]
      simp only [Nat.min_def]
      split <;> omega
    have hpos : ∀ i, fr + i < R.room → (R.floor + 1 + (k0 + i)) % R.room = fr + i := fun i hi => by
      rw [show R.floor + 1 + (k0 + i) = R.floor + k0 + 1 + i by omega, mod_add (by rw [hfr]; exact hi), hfr]
    have hwrap : ∀ i, i < R.room → (R.floor + 1 + (k0 + (R.room - fr + i))) % R.room = i := fun i hi => by
      rw [show R.floor + 1 + (k0 + (R.room - fr + i)) = R.floor + k0 + 1 + (R.room - fr) + i by omega, ← hfr]
      exact mod_wrap hi
    rcases hto2 with ⟨rfl, hle⟩ | ⟨rfl, hle⟩
    · rw [show fr + n - fr = n by omega, Nat.sub_self] at hpc
      refine (run_one b (R.floor + k0) n _ _ w P hPl (by omega) hpc (fun _ => ⟨_, rfl, .inr ⟨b, fr * 6, rfl, h.lt, fun i t hi j x hx => ?_⟩⟩) hPo).mono ?_
      · have hlt := (List.getElem?_eq_some_iff.1 hi).1
        have := hPc i t hi j x hx
        rw [hpos i (by omega), show (fr + i) * 6 + j = fr * 6 + i * 6 + j by omega] at this
        exact this
      · rintro e w' ⟨rfl, he, hb⟩
        exact ⟨P, hPm, rfl, he, hb⟩
    · refine (run_two b (R.floor + k0) n (R.room - fr) _ _ w (P.take (R.room - fr)) (P.drop (R.room - fr)) (by rw [List.length_take]; omega) (by rw [List.length_drop]; omega) (by omega) (by omega) hpc (fun _ => ⟨_, rfl, .inr ⟨b, fr * 6, rfl, h.lt, fun i t hi j x hx => ?_⟩⟩) (fun _ => ⟨_, rfl, .inr ⟨b, 0, rfl, h.lt, fun i t hi j x hx => ?_⟩⟩) (by rw [List.take_append_drop]; exact hPo)).mono ?_
      · have hlt := (List.getElem?_eq_some_iff.1 hi).1
        rw [List.length_take] at hlt
        rw [List.getElem?_take_of_lt (by omega)] at hi
        have := hPc i t hi j x hx
        rw [hpos i (by omega), show (fr + i) * 6 + j = fr * 6 + i * 6 + j by omega] at this
        exact this
      · have hlt := (List.getElem?_eq_some_iff.1 hi).1
        rw [List.length_drop] at hlt
        rw [List.getElem?_drop] at hi
        have := hPc (R.room - fr + i) t hi j x hx
        rw [hwrap i (by omega)] at this
        rw [Nat.zero_add]
        exact this
      · rintro e w' ⟨rfl, he, hb⟩
        rw [List.take_append_drop] at he
        exact ⟨P, hPm, rfl, he, hb⟩
end Go.Proofs.Ytnmengoefpdaiaa
