/-
  ring: Cut.
-/
import Derived.Test.YtnmengoefpdaiaaRNone
import Derived.Test.YtnmengoefpdaiaaRCut
namespace Go.Proofs.Ytnmengoefpdaiaa
open Go.RowKit
set_option linter.unusedVariables false
set_option linter.unusedSimpArgs false

/-- The pieces that Cut clears: what stays lies outside of them. -/
theorem pieces_cut (b k0 n : Nat) (R : RingT) (ok : R.Ok) (hk : k0 + n = R.l.length) : ∃ (a1 a2 : Option Addr) (fr n1 n2 : Nat), (0 < n1 → a1 = some ⟨b, fr * 6, none⟩) ∧ (0 < n2 → a2 = some ⟨b, 0, none⟩) ∧ fr * 6 + n1 * 6 ≤ 384 ∧ n2 * 6 ≤ 384 ∧
    (∀ k, k < k0 → ((R.floor + 1 + k) % R.room * 6 + 6 ≤ fr * 6 ∨ fr * 6 + n1 * 6 ≤ (R.floor + 1 + k) % R.room * 6) ∧ n2 * 6 ≤ (R.floor + 1 + k) % R.room * 6) ∧
    ∀ w, RingAt w b R → Calls Try.prog 32 #[.pointer (some ⟨b, 0, none⟩), .int .i64 ((R.floor + k0 : Nat) : Int), .int .i64 n] w fun e w' => e = .returned (.tuple #[.slice a1 n1 n1, .slice a2 n2 n2]) ∧ ∃ m, w' = w.drewN m := by
  have hrm := ok.room
  have hft := ok.fits
  have hmx : R.floor + R.l.length ≤ 2147483647 := ok.max
  by_cases h0 : n = 0
  · subst h0
    refine ⟨none, none, 0, 0, 0, fun h => absurd h (by decide), fun h => absurd h (by decide), by decide, by decide, fun k hk => ⟨.inr (by omega), by omega⟩, fun w h => ?_⟩
    refine (pieces_none b _ w).mono ?_
    rintro e w'' ⟨rfl, rfl⟩
    exact ⟨rfl, 0, rfl⟩
  · have hr0 : 0 < R.room := by omega
    obtain ⟨fr, hfr⟩ : ∃ fr, (R.floor + k0 + 1) % R.room = fr := ⟨_, rfl⟩
    obtain ⟨to, hto⟩ : ∃ to, Nat.min (fr + n) R.room = to := ⟨_, rfl⟩
    have hfl : fr < R.room := by rw [← hfr]; exact Nat.mod_lt _ hr0
    have hto2 : (to = fr + n ∧ fr + n ≤ R.room) ∨ (to = R.room ∧ R.room < fr + n) := by
      rw [← hto]
      simp only [Nat.min_def]
      split <;> omega
    have hpos : ∀ i, fr + i < R.room → (R.floor + 1 + (k0 + i)) % R.room = fr + i := fun i hi => by
      rw [show R.floor + 1 + (k0 + i) = R.floor + k0 + 1 + i by omega, mod_add (by rw [hfr]; exact hi), hfr]
    have hwrap : ∀ i, i < R.room → (R.floor + 1 + (k0 + (R.room - fr + i))) % R.room = i := fun i hi => by
      rw [show R.floor + 1 + (k0 + (R.room - fr + i)) = R.floor + k0 + 1 + (R.room - fr) + i by omega, ← hfr]
      exact mod_wrap hi
    have hne : ∀ k i, k < k0 → i < n → (R.floor + 1 + k) % R.room ≠ (R.floor + 1 + (k0 + i)) % R.room := fun k i h1 h2 => mod_ne (by omega) (by omega)
    refine ⟨some ⟨b, fr * 6, none⟩, some ⟨b, 0, none⟩, fr, to - fr, n - (to - fr), fun _ => rfl, fun _ => rfl, by omega, by omega, fun k hk0 => ?_, fun w h => pieces_some b R.room (R.floor + k0) n fr to w h.room hr0 hrm (by omega) (by omega) (by omega) hfr hto⟩
    obtain ⟨m, hm⟩ : ∃ m, (R.floor + 1 + k) % R.room = m := ⟨_, rfl⟩
    have hml : m < R.room := by rw [← hm]; exact Nat.mod_lt _ hr0
    have g1 : ¬ (fr ≤ m ∧ m < to) := fun ⟨x, y⟩ => by
      have h1 := hne k (m - fr) hk0 (by omega)
      rw [hpos (m - fr) (by omega), hm] at h1
      omega
    have g2 : ¬ (m < n - (to - fr)) := fun x => by
      have h1 := hne k (R.room - fr + m) hk0 (by omega)
      rw [hwrap m hml, hm] at h1
      omega
    rw [hm]
    constructor
    · by_cases hc : m < fr
      · exact .inl (by omega)
      · exact .inr (by omega)
    · omega
set_option maxHeartbeats 3200000 in
theorem cut_some (b k0 D : Nat) (R : RingT) (w : World) (h : RingAt w b R) (hk : k0 + D = R.l.length) (hh : R.hold ≤ R.floor + k0) :
    Calls Try.prog 16 #[.pointer (some ⟨b, 0, none⟩), .int .i64 ((R.floor + k0 : Nat) : Int)] w fun e w' => e = .returned (.int .i64 0) ∧ RingAt w' b { R with l := R.l.take k0 } ∧ Chg w w' (fun k => k = b) := by
  obtain ⟨a1, a2, fr, n1, n2, p1, p2, p3, p4, p5, p6⟩ := pieces_cut b k0 D R h.ok hk
  have HO : Hid _ := orZero_some b w
  have hfree : R.free ((R.floor + k0 : Nat) : Int) = 0 := by
    unfold RingT.free
    rw [if_neg (by omega), if_neg (by show ¬ ((R.floor + R.l.length : Nat) : Int) < _; omega)]
  have HI : Hid _ := isFree_any b R ((R.floor + k0 : Nat) : Int) w h
  rw [hfree] at HI
  have HPC : Hid _ := p6 w h
  have HX : Hid (RingAt w b R) := h
  have c8 := h.last
  obtain ⟨L, hL⟩ : ∃ L, R.last = L := ⟨_, rfl⟩
  rw [hL] at c8
  obtain ⟨N, hN⟩ : ∃ N, R.floor + k0 = N := ⟨_, rfl⟩
  have hD : (L : Int) - (N : Int) = (D : Int) := by
    rw [← hL, ← hN]
    show ((R.floor + R.l.length : Nat) : Int) - _ = _
    omega
  have hD2 : D ≤ 64 := by have := h.ok.fits; have := h.ok.room; omega
  have HN : Hid (R.floor + k0 = N) := hN
  have HH : Hid (R.hold ≤ R.floor + k0) := hh
  have HK : Hid (k0 + D = R.l.length) := hk
  rw [hN] at HI HPC ⊢
  have f8 := h.free
  obtain ⟨cs, hbx, hsz⟩ := h.box
  have HBX : Hid (∀ m, (w.drewN m).heap[b]? = some (.cells cs 61 (0, 0))) := fun m => kept_block (below_drewN (Below.refl w.heap.size w) m) hbx
  have HSZ : Hid (cs.size = 389) := hsz
  have HW : Hid (w.heap[b]? = some (.cells cs 61 (0, 0))) := hbx
  have HP1 : Hid (0 < n1 → a1 = some ⟨b, fr * 6, none⟩) := p1
  have HP2 : Hid (0 < n2 → a2 = some ⟨b, 0, none⟩) := p2
  have HP3 : Hid (fr * 6 + n1 * 6 ≤ 384 ∧ n2 * 6 ≤ 384) := ⟨p3, p4⟩
  have HP5 : Hid (∀ k, k < k0 → ((R.floor + 1 + k) % R.room * 6 + 6 ≤ fr * 6 ∨ fr * 6 + n1 * 6 ≤ (R.floor + 1 + k) % R.room * 6) ∧ n2 * 6 ≤ (R.floor + 1 + k) % R.room * 6) := p5
  clear h hk hh hN hL p1 p2 p3 p4 p5 p6 hbx hsz hfree
  go_enter Try.func16, Try.ntmps16
  go_wp2_with fail
  refine Calls.mono HO.out ?_
  rintro e w1 ⟨rfl, hw⟩
  subst w1
  go_wp2_with fail
  refine Calls.mono HI.out ?_
  rintro e w2 ⟨rfl, hw⟩
  subst w2
  go_wp2_with fail
  refine Calls.mono HPC.out ?_
  rintro e w3 ⟨rfl, m, rfl⟩
  obtain ⟨wa, cur1, r1, hg1, hs1, hc1, hch1⟩ := clear_any (w.drewN m) a1 n1 n1 b (fr * 6) cs 61 0 (HBX.out m) (fun hp => ⟨HP1.out hp, by rw [HSZ.out]; have := HP3.out.1; omega⟩)
  obtain ⟨wb, cur2, r2, hg2, hs2, hc2, hch2⟩ := clear_any wa a2 n2 n2 b 0 cur1 61 0 hg1 (fun hp => ⟨HP2.out hp, by rw [hs1, HSZ.out]; have := HP3.out.2; omega⟩)
  have HS1 : Hid (cur1.size = cs.size) := hs1
  have HC1 : Hid (∀ i, i < fr * 6 ∨ fr * 6 + n1 * 6 ≤ i → cur1[i]? = cs[i]?) := hc1
  have HCH1 : Hid (Chg (w.drewN m) wa (fun k => k = b)) := hch1
  have HG2 : Hid (wb.heap[b]? = some (.cells cur2 61 (0, 0))) := hg2
  have HS2 : Hid (cur2.size = cur1.size) := hs2
  have HC2 : Hid (∀ i, i < 0 ∨ 0 + n2 * 6 ≤ i → cur2[i]? = cur1[i]?) := hc2
  have HCH2 : Hid (Chg wa wb (fun k => k = b)) := hch2
  have f8b : ∀ o, wb.frozen? ⟨b, o, none⟩ = false := fun o => by simp [World.frozen?, hg2]
  have c8b : wb.cell? ⟨b, 388, none⟩ = some (.int .i64 L) := by
    rw [cell_blk hg2, hc2 388 (.inr (by have := HP3.out.2; omega)), hc1 388 (.inr (by have := HP3.out.1; omega)), ← cell_blk HW.out]
    exact c8
  clear hg1 hs1 hc1 hch1 hg2 hs2 hc2 hch2
  go_wp2_with fail
  go_ret
  have hsz2 : cur2.size = 389 := by rw [HS2.out, HS1.out, HSZ.out]
  have hcc : ∀ i v, (i < fr * 6 ∨ fr * 6 + n1 * 6 ≤ i) → n2 * 6 ≤ i → i ≠ 388 → w.cell? ⟨b, i, none⟩ = some v → (wb.setCell ⟨b, 388, none⟩ (.int .i64 N)).cell? ⟨b, i, none⟩ = some v := fun i v h1 h2 h3 hv => by
    rw [cell_ne (fun e => h3 e.symm), cell_blk HG2.out, HC2.out i (.inr (by omega)), HC1.out i h1, ← cell_blk HW.out]
    exact hv
  have hch : Chg w (wb.setCell ⟨b, 388, none⟩ (.int .i64 N)) (fun k => k = b) := (((Chg.of_below (below_drewN (Below.refl w.heap.size w) m) _).trans HCH1.out).trans HCH2.out).trans (chg_set1 _ _ _ _)
  refine ⟨rfl, HX.out.cutd (by have := HK.out; omega) HH.out hch ⟨_, heap_setCell_same _ _ _ _ _ _ HG2.out, by simpa using hsz2⟩ (fun k hk j v hj hv => ?_) (fun i v h1 h2 hv => hcc i v (.inr (by have := HP3.out.1; omega)) (by have := HP3.out.2; omega) h2 hv) ?_, hch⟩
  · obtain ⟨x, y⟩ := HP5.out k hk
    have hr0 : 0 < R.room := by have := HX.out.ok.fits; have := HK.out; omega
    have hm : (R.floor + 1 + k) % R.room < R.room := Nat.mod_lt _ hr0
    have hrm := HX.out.ok.room
    exact hcc _ v (by omega) (by omega) (by omega) hv
  · rw [HN.out, cell_set HG2.out (by omega), if_pos rfl]
set_option maxHeartbeats 1600000 in
theorem cut_no (b : Nat) (R : RingT) (n : Int) (w : World) (h : RingAt w b R) (hf : R.free n ≠ 0) : Calls Try.prog 16 #[.pointer (some ⟨b, 0, none⟩), .int .i64 n] w fun e w' => e = .returned (.int .i64 (R.free n)) ∧ w' = w := by
  have HO : Hid _ := orZero_some b w
  have HI : Hid _ := isFree_any b R n w h
  obtain ⟨c, hc⟩ : ∃ c, R.free n = c := ⟨_, rfl⟩
  rw [hc] at HI hf ⊢
  clear h hc
  go_enter Try.func16, Try.ntmps16
  go_wp2_with fail
  refine Calls.mono HO.out ?_
  rintro e w1 ⟨rfl, hw⟩
  subst w1
  go_wp2_with fail
  refine Calls.mono HI.out ?_
  rintro e w2 ⟨rfl, hw⟩
  subst w2
  go_wp2_with fail
  go_ret
  exact ⟨rfl, rfl⟩
theorem cut_any (p : Option Addr) (R : RingT) (n : Int) (w : World) (h : RP w p R) : Calls Try.prog 16 #[.pointer p, .int .i64 n] w fun e w' => e = .returned (.int .i64 (R.free n)) ∧ RStep w w' p (if R.free n = 0 then R.cut n else R) := by
  rcases h with ⟨rfl, rfl⟩ | ⟨b, rfl, hr⟩
  · refine (cut_zero none n w (.inl ⟨rfl, rfl⟩)).mono ?_
    rintro e w' ⟨rfl, hb⟩
    refine ⟨rfl, .inl ⟨rfl, ?_⟩, Chg.of_below hb _⟩
    split
    · simp [RingT.cut, zeroR]
    · rfl
  · by_cases hf : R.free n = 0
    · have hlo := hr.ok.low
      obtain ⟨h1, h2⟩ : (R.hold : Int) ≤ n ∧ n ≤ R.last := by
        unfold RingT.free at hf
        split at hf
        · cases hf
        · split at hf
          · cases hf
          · exact ⟨by omega, by omega⟩
      have h3 : (R.last : Int) = R.floor + R.l.length := by show ((R.floor + R.l.length : Nat) : Int) = _; omega
      obtain ⟨k0, hk⟩ : ∃ k0 : Nat, n = ((R.floor + k0 : Nat) : Int) := ⟨(n - R.floor).toNat, by omega⟩
      rw [if_pos hf, hf]
      have hkk : (n - R.floor).toNat = k0 := by omega
      unfold RingT.cut
      rw [hkk, hk]
      refine (cut_some b k0 (R.l.length - k0) R w hr (by omega) (by omega)).mono ?_
      rintro e w' ⟨rfl, hr', hc⟩
      exact ⟨rfl, .inr ⟨b, rfl, hr'⟩, hc.mono (fun k _ e => by rw [e])⟩
    · rw [if_neg hf]
      refine (cut_no b R n w hr hf).mono ?_
      rintro e w' ⟨rfl, rfl⟩
      exact ⟨rfl, .inr ⟨b, rfl, hr⟩, Chg.refl _ _⟩
end Go.Proofs.Ytnmengoefpdaiaa
