/-
  heraldref16: Spoil.
-/
import Derived.Test.YtfcobhgjkibdgaaLRefE
import Derived.Laws.BytesArg
import Derived.Laws.BitsAllLaws
namespace Go.Proofs.Ytfcobhgjkibdgaa
open Go.RowKit
set_option linter.unusedVariables false
set_option linter.unusedSimpArgs false

/-- The bytes of a text, as numbers. -/
def nb (s : ByteArray) (i : Nat) : Int := if h : i < s.size then (s[i].toNat : Int) else 0
def nsB (s : ByteArray) : List Int := (List.range s.size).map (nb s)
theorem nsB_len (s : ByteArray) : (nsB s).length = s.size := by simp [nsB]
theorem nsB_at {s : ByteArray} {i : Nat} (h : i < s.size) : (nsB s)[i]? = some (nb s i) := by simp [nsB, List.getElem?_range h]
/-- One byte is turned. -/
def tnL (s : ByteArray) (r : Nat) (t : Int) : List Int := (nsB s).set r (bits .xor .u8 (nb s r) t)
def tnB (s : ByteArray) (at' t : Int) : ByteArray := strOfNums (tnL s (at'.toNat % s.size) t)
/-- A message is spoilt. -/
def LnT.spl (L : LnT) (n at' t : Int) : LnT × Int := match fnd L.fl n with
  | none => (L, 160)
  | some p => if at' < 0 ∨ t < 1 ∨ 255 < t ∨ p.m.b.size = 0 then (L, 1) else if p.s = true then (L, 161) else (⟨L.fl.set (fnI L.fl n).toNat ⟨p.n, ⟨p.m.f, p.m.t, tnB p.m.b at' t⟩, true⟩, L.gv, false⟩, 0)
theorem tnL_len (s : ByteArray) (r : Nat) (t : Int) : (tnL s r t).length = s.size := by unfold tnL; rw [List.length_set, nsB_len]
theorem tnL_at {s : ByteArray} {r i : Nat} {t : Int} (h : i < s.size) : (tnL s r t)[i]? = some (if i = r then bits .xor .u8 (nb s i) t else nb s i) := by
  unfold tnL
  rw [List.getElem?_set]
  by_cases e : r = i
  · subst e
    simp [nsB_len, h]
  · rw [if_neg e, if_neg (fun h => e h.symm), nsB_at h]
theorem emp_iff (s : ByteArray) : s.toList.isEmpty = decide (s.size = 0) := by
  have h : s.toList.length = s.size := by rw [ByteArray.toList_eq]; rfl
  cases hl : s.toList with
  | nil => rw [hl] at h; simp [← h]
  | cons x l =>
    rw [hl] at h
    have h' : s.size ≠ 0 := by rw [← h]; simp
    simp [h']
theorem Try.info_u8 : (Try.prog.info? 5).map (fun i => (i.zero, i.size, i.bytes)) = some (some (.int .u8 0), 1, 1) := by kernel_rfl
set_option maxHeartbeats 6400000 in
set_option maxRecDepth 100000 in
theorem refSpoil_any (L : LnT) (n at' t : Int) (v : Value) (w : World) (h : FlAt w v L.fl) (hl : L.fl.length ≤ 256) (hb600 : ∀ p ∈ L.fl, p.m.b.size ≤ 1000000) :
    Calls Try.prog 43 #[lnV v L.gv L.no, .int .i64 n, .int .i64 at', .int .i64 t] w fun e w' => ∃ v', e = .returned (.tuple #[lnV v' (L.spl n at' t).1.gv (L.spl n at' t).1.no, .int .i64 (L.spl n at' t).2]) ∧ FlAt w' v' (L.spl n at' t).1.fl ∧ Below w.heap.size w w' := by
  obtain ⟨a, c, rfl, _⟩ := fl_form h
  obtain ⟨qn, hqn⟩ : ∃ z, L.fl.length = z := ⟨_, rfl⟩
  have HFL : Hid (FlAt w (.slice a qn c) L.fl) := by rw [← hqn]; exact h
  have HQ : Hid (L.fl.length = qn) := hqn
  rw [hqn] at hl ⊢
  obtain ⟨hA, hB, hbel⟩ := pair_blocks (w := w) (t := 56) (cs := #[.slice a qn c, .int .i64 L.gv, .bool L.no]) (t' := 56) (cs' := #[.slice none 0 0, .int .i64 0, .bool false])
  obtain ⟨W, hW⟩ : ∃ W, ((w.alloc (.cells #[.slice a qn c, .int .i64 L.gv, .bool L.no] 56)).alloc (.cells #[.slice none 0 0, .int .i64 0, .bool false] 56)) = W := ⟨_, rfl⟩
  rw [hW] at hA hB hbel
  obtain ⟨g, hg⟩ : ∃ g, w.heap.size = g := ⟨_, rfl⟩
  have HBW : Hid (Below w.heap.size w W) := hbel
  rw [hg] at hA hB
  have HG : Hid (w.heap.size = g) := hg
  have HW : Hid (_ = W) := hW
  have HA : Hid (W.heap[g]? = some (.cells #[.slice a qn c, .int .i64 L.gv, .bool L.no] 56 (0, 0))) := hA
  have HB : Hid (W.heap[g + 1]? = some (.cells #[.slice none 0 0, .int .i64 0, .bool false] 56 (0, 0))) := hB
  have HF : Hid (∀ w', Below w.heap.size w w' → _) := fun w' hb => refFind_any L.fl L.gv L.no n (.slice a qn c) w' (owns_below HFL.out hb) (by rw [HQ.out]; exact hl)
  obtain ⟨c0, c1, c2⟩ := cells_3 hA
  have hcase := fnd_cases L.fl n
  obtain ⟨R, hR⟩ : ∃ R, L.spl n at' t = R := ⟨_, rfl⟩
  have HR : Hid (L.spl n at' t = R) := hR
  have H6 : Hid (∀ p ∈ L.fl, p.m.b.size ≤ 1000000) := hb600
  rw [hR]
  clear hW hA hB hbel hqn h hg hR hb600
  go_enter Try.func43, Try.ntmps43
  go_upto_region 1 with fail
  rw [HW.out, HG.out]
  go_wp2_with fail
  refine Calls.mono (HF.out _ HBW.out) ?_
  rintro e w1 ⟨rfl, hb1⟩
  have HA1 : Hid (w1.heap[g]? = some (.cells #[.slice a qn c, .int .i64 L.gv, .bool L.no] 56 (0, 0))) := kept_block hb1 HA.out
  have HB1 : Hid (w1.heap[g + 1]? = some (.cells #[.slice none 0 0, .int .i64 0, .bool false] 56 (0, 0))) := kept_block hb1 HB.out
  have HBW1 : Hid (Below w.heap.size w w1) := trans2 HBW.out hb1
  obtain ⟨d0, d1, d2⟩ := cells_3 HA1.out
  obtain ⟨r0, r1, r2⟩ := cells_3 HB1.out
  have f1 := free_of HB1.out
  clear hb1 c0 c1 c2
  have fin : ∀ wz, Below w.heap.size w wz → wz.heap[g + 1]? = some (.cells #[.slice none 0 0, .int .i64 0, .bool false] 56 (0, 0)) → FlAt (put_3 wz (g + 1) (.slice a qn c) (.int .i64 L.gv) (.bool L.no)) (.slice a qn c) L.fl ∧ Below w.heap.size w (put_3 wz (g + 1) (.slice a qn c) (.int .i64 L.gv) (.bool L.no)) := fun wz hb hbx =>
    ⟨row_other (owns_below HFL.out hb) (chg_put3 wz (g + 1) _ _ _) (Kind.one hbx) (by decide), fillB_3 hb (by rw [HG.out]; omega)⟩
  have FIN : Hid _ := fin
  clear fin
  rcases hcase with ⟨i, p, hp, hn, hI, hf, _⟩ | ⟨hI, hf, _⟩
  · subst hn
    have hD := HR.out
    unfold LnT.spl at hD
    rw [hf, hI] at hD
    have HD : Hid ((if at' < 0 ∨ t < 1 ∨ 255 < t ∨ p.m.b.size = 0 then (L, (1 : Int)) else if p.s = true then (L, 161) else (⟨L.fl.set ((i : Int)).toNat ⟨p.n, ⟨p.m.f, p.m.t, tnB p.m.b at' t⟩, true⟩, L.gv, false⟩, 0)) = R) := hD
    obtain ⟨g5, cc, hv, hg5, x0, x1, x2, x3, x4⟩ := fl_get (owns_below HFL.out HBW1.out) hp
    obtain ⟨rfl, rfl⟩ : a = some ⟨g5, 0, none⟩ ∧ c = cc := by simp only [Value.slice.injEq] at hv; exact ⟨hv.1, hv.2.2⟩
    have hi : (i : Int) < (qn : Int) := by have := (List.getElem?_eq_some_iff.1 hp).1; have := HQ.out; omega
    have hi0 : ¬ (i : Int) < 0 := by omega
    have HPI : Hid (L.fl[i]? = some p) := hp
    have hsz : p.m.b.size ≤ 1000000 := H6.out p (List.mem_of_getElem? hp)
    rw [hI]
    obtain ⟨pn, ⟨pf, pt, pb⟩, ps⟩ := p
    simp only at x0 x1 x2 x3 x4 hsz
    clear hp hI hf hD hv
    go_upto_region 5 with fail
    obtain ⟨W2, hW2⟩ : ∃ z, w1.alloc (.cells #[.int .i64 pf, .int .i64 pt, .string pb] 23) = z := ⟨_, rfl⟩
    obtain ⟨gm, hgm⟩ : ∃ z, w1.heap.size = z := ⟨_, rfl⟩
    have hb2 : Below w1.heap.size w1 W2 := by rw [← hW2]; exact (Below.refl _ _).alloc (Nat.le_refl _) _
    have HX : Hid (W2.heap[gm]? = some (.cells #[.int .i64 pf, .int .i64 pt, .string pb] 23 (0, 0))) := by show _ = _; rw [← hW2, ← hgm]; exact heap_alloc_new _ _
    have HBW2 : Hid (Below w.heap.size w W2) := trans2 HBW1.out hb2
    have HB2 : Hid (W2.heap[g + 1]? = some (.cells #[.slice none 0 0, .int .i64 0, .bool false] 56 (0, 0))) := kept_block hb2 HB1.out
    have HA2 : Hid (W2.heap[g]? = some (.cells #[.slice (some ⟨g5, 0, none⟩) qn c, .int .i64 L.gv, .bool L.no] 56 (0, 0))) := kept_block hb2 HA1.out
    have x4' : W2.cell? ⟨g5, i * 5 + 4, none⟩ = some (.bool ps) := by rw [hb2.cell (p := ⟨g5, _, none⟩) hg5]; exact x4
    have HGM : Hid (w1.heap.size = gm) := hgm
    rw [hW2, hgm]
    clear hW2 hb2 d0 d1 d2 r0 r1 r2 f1 x0 x1 x2 x3 x4 hgm hg5
    obtain ⟨d0, d1, d2⟩ := cells_3 HA2.out
    obtain ⟨r0, r1, r2⟩ := cells_3 HB2.out
    obtain ⟨y0, y1, y2⟩ := cells_3 HX.out
    have f1 := free_of HB2.out
    by_cases h1 : at' < 0
    · have HE : Hid ((L, (1 : Int)) = R) := by have := HD.out; rw [if_pos (.inl h1)] at this; exact this
      go_wp2_with fail
      have e := HE.out
      subst e
      exact bodyPost_ret (results_cell_tmp rfl _ _ (g + 1) 56 _ (0, 0) _ _ rfl rfl (fill_3 HB2.out) Try.underlying56 rfl (by kernel_rfl)) rfl ⟨_, rfl, FIN.out _ HBW2.out HB2.out⟩
    by_cases h2 : t < 1
    · have HE : Hid ((L, (1 : Int)) = R) := by have := HD.out; rw [if_pos (.inr (.inl h2))] at this; exact this
      go_wp2_with fail
      have e := HE.out
      subst e
      exact bodyPost_ret (results_cell_tmp rfl _ _ (g + 1) 56 _ (0, 0) _ _ rfl rfl (fill_3 HB2.out) Try.underlying56 rfl (by kernel_rfl)) rfl ⟨_, rfl, FIN.out _ HBW2.out HB2.out⟩
    by_cases h3 : 255 < t
    · have HE : Hid ((L, (1 : Int)) = R) := by have := HD.out; rw [if_pos (.inr (.inr (.inl h3)))] at this; exact this
      go_wp2_with fail
      have e := HE.out
      subst e
      exact bodyPost_ret (results_cell_tmp rfl _ _ (g + 1) 56 _ (0, 0) _ _ rfl rfl (fill_3 HB2.out) Try.underlying56 rfl (by kernel_rfl)) rfl ⟨_, rfl, FIN.out _ HBW2.out HB2.out⟩
    by_cases h4 : pb.size = 0
    · have HE : Hid ((L, (1 : Int)) = R) := by have := HD.out; rw [if_pos (.inr (.inr (.inr h4)))] at this; exact this
      have hem : pb.toList.isEmpty = true := by rw [emp_iff]; simpa using h4
      go_wp2_with fail
      have e := HE.out
      subst e
      exact bodyPost_ret (results_cell_tmp rfl _ _ (g + 1) 56 _ (0, 0) _ _ rfl rfl (fill_3 HB2.out) Try.underlying56 rfl (by kernel_rfl)) rfl ⟨_, rfl, FIN.out _ HBW2.out HB2.out⟩
    have hem : pb.toList.isEmpty = false := by rw [emp_iff]; simpa using h4
    have hD2 := HD.out
    rw [if_neg (by show ¬ (_ ∨ _ ∨ _ ∨ _); omega)] at hD2
    cases ps with
    | true =>
      have HE : Hid ((L, (161 : Int)) = R) := by rw [if_pos rfl] at hD2; exact hD2
      clear hD2
      go_wp2_with fail
      have e := HE.out
      subst e
      exact bodyPost_ret (results_cell_tmp rfl _ _ (g + 1) 56 _ (0, 0) _ _ rfl rfl (fill_3 HB2.out) Try.underlying56 rfl (by kernel_rfl)) rfl ⟨_, rfl, FIN.out _ HBW2.out HB2.out⟩
    | false =>
      rw [if_neg (by simp)] at hD2
      have HE : Hid ((⟨L.fl.set i ⟨pn, ⟨pf, pt, tnB pb at' t⟩, true⟩, L.gv, false⟩, (0 : Int)) = R) := hD2
      obtain ⟨sz, hsz2⟩ : ∃ z, pb.size = z := ⟨_, rfl⟩
      obtain ⟨r, hr⟩ : ∃ z, at'.toNat % pb.size = z := ⟨_, rfl⟩
      have hr1 : at'.tmod (sz : Int) = (r : Int) := by
        obtain ⟨k, rfl⟩ := Int.eq_ofNat_of_zero_le (show 0 ≤ at' by omega)
        rw [← hr, hsz2, ← Int.ofNat_tmod]
        simp
      have hr2 : r < sz := by rw [← hr, hsz2]; exact Nat.mod_lt _ (by omega)
      have HTN : Hid (tnB pb at' t = strOfNums (tnL pb r t)) := by show _ = _; unfold tnB; rw [hr]
      have HSZ : Hid (pb.size = sz) := hsz2
      have ht8 : IntKind.u8.wrap t = t := by unfold IntKind.wrap; simp [IntKind.bits, IntKind.signed]; omega
      have HH : Hid (0 ≤ at' ∧ 1 ≤ t ∧ t ≤ 255) := by show _ ∧ _ ∧ _; omega
      rw [hsz2] at hsz h4
      have hs0 : ((sz : Int) == 0) = false := by simp; omega
      clear hD2 hsz2 hr
      go_upto_region 9 with fail
      clear h1 h2 h3
      go_wp2_with fail
      go_loopw [12, 13, 14] (fun bv k _ wr => ∃ q : Nat, k = .int .i64 q ∧ q ≤ sz ∧ Hid (wr.ownsRow W2.heap.size 5 1 bv q (((tnL pb r t).take q).map (.int .u8 ·)) ∧ Below W2.heap.size W2 wr)) (fun _ k _ _ => sz - (intOf k).toNat)
      case atStart => exact ⟨0, rfl, Nat.zero_le _, owns_nil _ _ _ _, Below.refl _ _⟩
      case round =>
        obtain ⟨q, rfl, hq, HI⟩ := hrel
        obtain ⟨y0, y1, y2⟩ := cells_3 (kept_block HI.out.2 HX.out)
        have hbs : pb.size = sz := HSZ.out
        by_cases hlt : q < sz
        · have hqi : (q : Int) < (sz : Int) := by omega
          have hqs : q < pb.size := by rw [hbs]; exact hlt
          have hnb : ((pb[q]'hqs).toNat : Int) = nb pb q := by unfold nb; rw [dif_pos hqs]
          have hn8 : 0 ≤ nb pb q ∧ nb pb q < 256 := by rw [← hnb]; have := (pb[q]'hqs).toNat_lt; omega
          by_cases hqr : q = r
          · have hqq : ((q : Int) == (r : Int)) = true := by rw [hqr]; simp
            have hqn : (q == r) = true := by rw [hqr]; simp
            have HTX : Hid ((tnL pb r t)[q]? = some (bits .xor .u8 (nb pb q) t)) := by show _ = _; rw [tnL_at hqs, if_pos hqr]
            clear hqr
            go_wp2_with (first
              | (at_builtin; refine wpList_row Try.underlying99 Try.info_u8 rfl (by decide) rfl _ _ rfl W2.heap.size u12 q (((tnL pb r t).take q).map (.int .u8 ·)) rfl (owns_below HI.out.1 ((Below.refl _ _).alloc (Nat.le_refl _) _)) wr.heap.size 1 [.int .u8 (bits .xor .u8 (nb pb q) t)] rfl (heap_alloc_new _ _) rfl (by simp [Value.oneCell']) (by unfold maxLen; omega) (by omega) (by rw [World.size_alloc]; have := HI.out.2.size; omega) ?_
                 intro v6 w6 hd6 hg6 ho6
                 have hal : Below wr.heap.size wr (wr.alloc (.cells #[.int .u8 (bits .xor .u8 (nb pb q) t)] 5)) := (Below.refl _ _).alloc (Nat.le_refl _) _
                 have HS6 : Hid (w6.ownsRow W2.heap.size 5 1 v6 (q + 1) (((tnL pb r t).take (q + 1)).map (.int .u8 ·)) ∧ Below W2.heap.size W2 w6) := by
                   refine ⟨?_, grown_in (trans2 HI.out.2 hal) hg6 (fun k hk => (row_block HI.out.1 k hk).1) (Nat.le_refl _)⟩
                   rw [take_at HTX.out, List.map_append]
                   exact hd6
                 clear hd6 hg6 ho6 hal))
            go_roundw
            case rel => exact ⟨q + 1, by go_num, by omega, HS6⟩
            case measure => simp [intOf]; omega
          · have hqq : ((q : Int) == (r : Int)) = false := by simp; omega
            have hqn : (q == r) = false := by simp; omega
            have HTX : Hid ((tnL pb r t)[q]? = some (nb pb q)) := by show _ = _; rw [tnL_at hqs, if_neg hqr]
            clear hqr
            go_wp2_with (first
              | (at_builtin; refine wpList_row Try.underlying99 Try.info_u8 rfl (by decide) rfl _ _ rfl W2.heap.size u12 q (((tnL pb r t).take q).map (.int .u8 ·)) rfl (owns_below HI.out.1 ((Below.refl _ _).alloc (Nat.le_refl _) _)) wr.heap.size 1 [.int .u8 (nb pb q)] rfl (heap_alloc_new _ _) rfl (by simp [Value.oneCell']) (by unfold maxLen; omega) (by omega) (by rw [World.size_alloc]; have := HI.out.2.size; omega) ?_
                 intro v6 w6 hd6 hg6 ho6
                 have hal : Below wr.heap.size wr (wr.alloc (.cells #[.int .u8 (nb pb q)] 5)) := (Below.refl _ _).alloc (Nat.le_refl _) _
                 have HS6 : Hid (w6.ownsRow W2.heap.size 5 1 v6 (q + 1) (((tnL pb r t).take (q + 1)).map (.int .u8 ·)) ∧ Below W2.heap.size W2 w6) := by
                   refine ⟨?_, grown_in (trans2 HI.out.2 hal) hg6 (fun k hk => (row_block HI.out.1 k hk).1) (Nat.le_refl _)⟩
                   rw [take_at HTX.out, List.map_append]
                   exact hd6
                 clear hd6 hg6 ho6 hal))
            go_roundw
            case rel => exact ⟨q + 1, by go_num, by omega, HS6⟩
            case measure => simp [intOf]; omega
        · obtain rfl : q = sz := by omega
          have hge : ¬ (q : Int) < (q : Int) := by omega
          obtain ⟨k0, hk0⟩ : ∃ k, q = k + 1 := ⟨q - 1, by omega⟩
          obtain ⟨bg, bc, hbv⟩ : ∃ g c, u12 = .slice (some ⟨g, 0, none⟩) q c := by have h9 := HI.out.1; rw [hk0] at h9 ⊢; exact row_some h9
          subst hbv
          have hcv : (convert 99 9 (.slice (some ⟨bg, 0, none⟩) q bc)).run Try.prog wr = .ok (.string (strOfNums (tnL pb r t))) wr := by
            have h9 := HI.out.1
            rw [List.take_of_length_le (by rw [tnL_len, hbs]; exact Nat.le_refl _)] at h9
            refine run_convert_bytes_arg _ 99 5 Try.underlying99 Try.underlying5 bg 0 q bc (tnL pb r t) (by rw [tnL_len, hbs]) (fun i hi => ?_) 9 Try.underlying9
            rw [Nat.zero_add]
            refine cell_n h9 ?_
            have hil : i < (tnL pb r t).length := by rw [tnL_len, hbs]; exact hi
            rw [List.getElem?_map, List.getElem?_eq_getElem hil, List.getD_eq_getElem?_getD, List.getElem?_eq_getElem hil]
            rfl
          have fx := free_of (kept_block HI.out.2 HX.out)
          obtain ⟨W3, hW3⟩ : ∃ z, wr.setCell ⟨gm, 2, none⟩ (.string (strOfNums (tnL pb r t))) = z := ⟨_, rfl⟩
          have HX3 : Hid (W3.heap[gm]? = some (.cells #[.int .i64 pf, .int .i64 pt, .string (strOfNums (tnL pb r t))] 23 (0, 0))) := by show _ = _; rw [← hW3]; exact same_blk (kept_block HI.out.2 HX.out) rfl
          have hc3 : Chg wr W3 (fun k => k = gm) := by rw [← hW3]; exact Chg.set wr ⟨gm, 2, none⟩ _
          have hgm : gm < W2.heap.size ∧ w.heap.size ≤ gm ∧ gm ≠ g ∧ gm ≠ g + 1 := by
            refine ⟨lt_of_blk HX.out, ?_, kind_ne HX.out HA2.out (by decide), kind_ne HX.out HB2.out (by decide)⟩
            rcases Nat.lt_or_ge gm w.heap.size with h | h
            · exact absurd (HGM.out) (by have := HBW1.out.size; omega)
            · exact h
          have HA3 : Hid (W3.heap[g]? = some (.cells #[.slice (some ⟨g5, 0, none⟩) qn c, .int .i64 L.gv, .bool L.no] 56 (0, 0))) := by show _ = _; rw [hc3.block g (lt_of_blk (kept_block HI.out.2 HA2.out)) (fun e => hgm.2.2.1 e.symm)]; exact kept_block HI.out.2 HA2.out
          have HB3 : Hid (W3.heap[g + 1]? = some (.cells #[.slice none 0 0, .int .i64 0, .bool false] 56 (0, 0))) := by show _ = _; rw [hc3.block (g + 1) (lt_of_blk (kept_block HI.out.2 HB2.out)) (fun e => hgm.2.2.2 e.symm)]; exact kept_block HI.out.2 HB2.out
          have HBW3 : Hid (Below w.heap.size w W3) := by show Below _ _ _; rw [← hW3]; exact ext_set (trans2 HBW2.out HI.out.2) hgm.2.1
          have HW3 : Hid (_ = W3) := hW3
          clear hc3 hW3 hgm d0 d1 d2 r0 r1 r2 f1 x4' hk0
          go_upto_region 18 with fail
          rw [HW3.out]
          clear hcv fx y0 y1 y2
          obtain ⟨d0, d1, d2⟩ := cells_3 HA3.out
          go_upto_region 19 with fail
          obtain ⟨W4, hW4⟩ : ∃ z, W3.alloc (.cells #[.slice none 0 0, .int .i64 L.gv, .bool false] 56) = z := ⟨_, rfl⟩
          obtain ⟨g15, hg15⟩ : ∃ z, W3.heap.size = z := ⟨_, rfl⟩
          have hA4 : W4.heap[g15]? = some (.cells #[.slice none 0 0, .int .i64 L.gv, .bool false] 56 (0, 0)) := by rw [← hW4, ← hg15]; exact heap_alloc_new _ _
          have hb4 : Below W3.heap.size W3 W4 := by rw [← hW4]; exact (Below.refl _ _).alloc (Nat.le_refl _) _
          rw [hW4, hg15]
          have HG15 : Hid (W3.heap.size = g15) := hg15
          have HP0 : Hid (MkP W3 W4 g15 L.gv false (.slice none 0 0) []) := ⟨owns_nil _ _ _ _, hA4, hb4⟩
          clear hA4 hb4 hW4 hg15 d0 d1 d2 hge hlt hbs
          go_wp2_with fail
          obtain ⟨qs, hqs⟩ : ∃ z, q = z := ⟨_, rfl⟩
          rw [hqs]
          clear hqs
          go_loopw [16, 17] (fun kk _ wr => ∃ (k : Nat) (na : Option Addr) (nc : Nat), kk = .int .i64 k ∧ k ≤ qn ∧ Hid (MkP W3 wr g15 L.gv false (.slice na k nc) ((L.fl.set i ⟨pn, ⟨pf, pt, strOfNums (tnL pb r t)⟩, true⟩).take k))) (fun kk _ _ => qn - (intOf kk).toNat)
          case atStart => exact ⟨0, none, 0, rfl, Nat.zero_le _, HP0⟩
          case round =>
            obtain ⟨k, na, nc, rfl, hk, HP⟩ := hrel
            obtain ⟨l2, hl2⟩ : ∃ z, (L.fl.set i ⟨pn, ⟨pf, pt, strOfNums (tnL pb r t)⟩, true⟩).take k = z := ⟨_, rfl⟩
            rw [hl2] at HP
            have HLK : Hid (l2.length = k) := by show _ = _; rw [← hl2, List.length_take, List.length_set, HQ.out]; omega
            have hbr := HP.out.below
            obtain ⟨c0, c1, c2⟩ := cells_3 (kept_block hbr HA3.out)
            by_cases hkl : k < qn
            · have hki : (k : Int) < (qn : Int) := by omega
              obtain ⟨x, hx⟩ : ∃ x, L.fl[k]? = some x := ⟨L.fl[k]'(by rw [HQ.out]; exact hkl), List.getElem?_eq_getElem _⟩
              obtain ⟨b5, cc, hv, hb5, x0, x1, x2, x3, x4⟩ := fl_get (owns_below HFL.out (trans2 HBW3.out hbr)) hx
              obtain ⟨hb55, rfl⟩ : g5 = b5 ∧ c = cc := by simp only [Value.slice.injEq, Option.some.injEq, Addr.mk.injEq] at hv; exact ⟨hv.1.1, hv.2.2⟩
              subst hb55
              obtain ⟨W5, hW5⟩ : ∃ z, wr.alloc (.cells x.cells.toArray 97) = z := ⟨_, rfl⟩
              obtain ⟨g17, hg17⟩ : ∃ z, wr.heap.size = z := ⟨_, rfl⟩
              have hA5 : W5.heap[g17]? = some (.cells #[.int .i64 x.n, .int .i64 x.m.f, .int .i64 x.m.t, .string x.m.b, .bool x.s] 97 (0, 0)) := by rw [← hW5, ← hg17]; exact heap_alloc_new _ _
              have hb5' : Below wr.heap.size wr W5 := by rw [← hW5]; exact (Below.refl _ _).alloc (Nat.le_refl _) _
              have HA5 : Hid _ := hA5
              have HP5 : Hid (MkP W3 W5 g15 L.gv false (.slice na k nc) l2) := HP.out.at hb5'
              have HX5 : Hid (W5.heap[gm]? = some (.cells #[.int .i64 pf, .int .i64 pt, .string (strOfNums (tnL pb r t))] 23 (0, 0))) := kept_block (trans2 hbr hb5') HX3.out
              have HNE : Hid (g17 ≠ g15 ∧ ∀ j, (Value.slice na k nc).ownBlock = some j → j ≠ g17) := ⟨by have := lt_of_blk HP.out.box; omega, fun j hj e => by have := (row_block HP.out.row j hj).2; omega⟩
              have HW5 : Hid (wr.alloc (.cells #[.int .i64 x.n, .int .i64 x.m.f, .int .i64 x.m.t, .string x.m.b, .bool x.s] 97) = W5) := hW5
              have HG17 : Hid (wr.heap.size = g17) := hg17
              have HGW : Hid (W3.heap.size ≤ g17) := by show _ ≤ _; rw [← hg17]; exact hbr.size
              have HXL : Hid ((L.fl.set i ⟨pn, ⟨pf, pt, strOfNums (tnL pb r t)⟩, true⟩)[k]? = if k = i then some ⟨pn, ⟨pf, pt, strOfNums (tnL pb r t)⟩, true⟩ else some x) := by
                show _ = _
                rw [List.getElem?_set]
                by_cases e : i = k
                · subst e; rw [if_pos rfl, if_pos rfl, if_pos (by rw [HQ.out]; exact hkl)]
                · rw [if_neg e, if_neg (fun h => e h.symm), hx]
              have HL2 : Hid (_ = l2) := hl2
              clear hx hv hb5 hW5 hA5 hb5' hg17 hbr hl2
              go_upto_region 23 with fail
              rw [HW5.out, HG17.out]
              clear x0 x1 x2 x3 x4 c0 c1 c2
              obtain ⟨m0, m1, m2⟩ := cells_3 HX5.out
              obtain ⟨e0, e1, e2, e3, e4⟩ := cells_5 HA5.out
              have f5 := free_of HA5.out
              by_cases hki2 : k = i
              · have hq1 : ((k : Int) == (i : Int)) = true := by rw [hki2]; simp
                have hq2 : (k == i) = true := by rw [hki2]; simp
                have HT2 : Hid ((L.fl.set i ⟨pn, ⟨pf, pt, strOfNums (tnL pb r t)⟩, true⟩).take (k + 1) = l2 ++ [⟨pn, ⟨pf, pt, strOfNums (tnL pb r t)⟩, true⟩]) := by show _ = _; rw [take_at (by rw [HXL.out, if_pos hki2]), HL2.out]
                clear hki2
                obtain ⟨W6, hW6⟩ : ∃ z, ((((W5.setCell ⟨g17, 0, none⟩ (.int .i64 pn)).setCell ⟨g17, 1, none⟩ (.int .i64 pf)).setCell ⟨g17, 2, none⟩ (.int .i64 pt)).setCell ⟨g17, 3, none⟩ (.string (strOfNums (tnL pb r t)))).setCell ⟨g17, 4, none⟩ (.bool true) = z := ⟨_, rfl⟩
                have HA6 : Hid (W6.heap[g17]? = some (.cells #[.int .i64 pn, .int .i64 pf, .int .i64 pt, .string (strOfNums (tnL pb r t)), .bool true] 97 (0, 0))) := by show _ = _; rw [← hW6]; exact fill_5 HA5.out
                have hc6 : Chg W5 W6 (fun j => j = g17) := by rw [← hW6]; exact ((((Chg.set W5 ⟨g17, 0, none⟩ _).trans (Chg.set _ ⟨g17, 1, none⟩ _)).trans (Chg.set _ ⟨g17, 2, none⟩ _)).trans (Chg.set _ ⟨g17, 3, none⟩ _)).trans (Chg.set _ ⟨g17, 4, none⟩ _)
                have HP6 : Hid (MkP W3 W6 g15 L.gv false (.slice na k nc) l2) := ⟨row_chg HP5.out.row hc6 (fun j hj e => HNE.out.2 j hj e), by rw [hc6.block g15 (lt_of_blk HP5.out.box) (fun e => HNE.out.1 e.symm)]; exact HP5.out.box, by rw [← hW6]; exact ext_set (ext_set (ext_set (ext_set (ext_set HP5.out.below HGW.out) HGW.out) HGW.out) HGW.out) HGW.out⟩
                have HW6 : Hid (_ = W6) := hW6
                clear hW6 hc6
                go_upto_region 25 with fail
                rw [HW6.out]
                clear m0 m1 m2 e0 e1 e2 e3 e4 f5
                obtain ⟨e0, e1, e2, e3, e4⟩ := cells_5 HA6.out
                have hold : ∀ ob o, (W6.alloc ob).cell? ⟨g15, o, none⟩ = W6.cell? ⟨g15, o, none⟩ := fun ob o => ((Below.refl W6.heap.size W6).alloc (Nat.le_refl _) ob).cell (p := ⟨g15, o, none⟩) (lt_of_blk HP6.out.box)
                obtain ⟨n0, n1, n2⟩ := cells_3 HP6.out.box
                go_wp2_with (first
                  | (at_builtin; refine wpList_row Try.underlying54 Try.info_pc rfl (by decide) rfl _ _ rfl (W3.heap.size + 1) (.slice na k nc) k (l2.flatMap PcT.cells) rfl (by have h9 := HP6.out.row; rw [HLK.out] at h9; exact owns_below h9 ((Below.refl _ _).alloc (Nat.le_refl _) _)) W6.heap.size 1 (PcT.cells ⟨pn, ⟨pf, pt, strOfNums (tnL pb r t)⟩, true⟩) rfl (heap_alloc_new _ _) rfl (by simp [Value.oneCell']) (by unfold maxLen; omega) (by omega) (by have h1 := lt_of_blk HP6.out.box; have h2 := HG15.out; rw [World.size_alloc]; omega) ?_
                     intro v5 w5 hd5 hg5 ho5
                     have hal : Below W6.heap.size W6 (W6.alloc (.cells (PcT.cells ⟨pn, ⟨pf, pt, strOfNums (tnL pb r t)⟩, true⟩).toArray 97)) := (Below.refl _ _).alloc (Nat.le_refl _) _
                     obtain ⟨sa, sc, hv5, _⟩ := row_form hd5
                     subst hv5
                     have HM5 : Hid (MkP W3 (w5.setCell ⟨g15, 0, none⟩ (.slice sa (k + 1) sc)) g15 L.gv false (.slice sa (k + 1) sc) (l2 ++ [⟨pn, ⟨pf, pt, strOfNums (tnL pb r t)⟩, true⟩])) := (HP6.out.at hal).push (t := ⟨pn, ⟨pf, pt, strOfNums (tnL pb r t)⟩, true⟩) HG15.out.symm (by rw [HLK.out]; exact hd5) hg5
                     have hbx5 : w5.heap[g15]? = some (.cells #[.slice na k nc, .int .i64 L.gv, .bool false] 56 (0, 0)) := by
                       rw [(Chg.grown hg5).block g15 (Nat.lt_of_lt_of_le (lt_of_blk HP6.out.box) hal.size) (fun e => by have h2 := (row_block HP6.out.row g15 e).1; have h3 := HG15.out; omega)]
                       exact kept_block hal HP6.out.box
                     obtain ⟨d0, d1, d2⟩ := cells_3 hbx5
                     have fb5 := free_of hbx5
                     clear hd5 hg5 ho5 hal hbx5))
                go_roundw
                case rel => exact ⟨k + 1, sa, sc, by go_num, by omega, by rw [HT2.out]; exact HM5⟩
                case measure => simp [intOf]; omega
              · have hq1 : ((k : Int) == (i : Int)) = false := by simp; omega
                have hq2 : (k == i) = false := by simp; omega
                have HT2 : Hid ((L.fl.set i ⟨pn, ⟨pf, pt, strOfNums (tnL pb r t)⟩, true⟩).take (k + 1) = l2 ++ [x]) := by show _ = _; rw [take_at (by rw [HXL.out, if_neg hki2]), HL2.out]
                clear hki2
                go_upto_region 25 with fail
                clear m0 m1 m2 e0 e1 e2 e3 e4 f5
                obtain ⟨W6, hW6⟩ : ∃ z, z = W5 := ⟨_, rfl⟩
                have HA6 : Hid (W6.heap[g17]? = some (.cells #[.int .i64 x.n, .int .i64 x.m.f, .int .i64 x.m.t, .string x.m.b, .bool x.s] 97 (0, 0))) := by rw [hW6]; exact HA5
                have HP6 : Hid (MkP W3 W6 g15 L.gv false (.slice na k nc) l2) := by rw [hW6]; exact HP5
                rw [← hW6]
                clear hW6
                obtain ⟨e0, e1, e2, e3, e4⟩ := cells_5 HA6.out
                have hold : ∀ ob o, (W6.alloc ob).cell? ⟨g15, o, none⟩ = W6.cell? ⟨g15, o, none⟩ := fun ob o => ((Below.refl W6.heap.size W6).alloc (Nat.le_refl _) ob).cell (p := ⟨g15, o, none⟩) (lt_of_blk HP6.out.box)
                obtain ⟨n0, n1, n2⟩ := cells_3 HP6.out.box
                go_wp2_with (first
                  | (at_builtin; refine wpList_row Try.underlying54 Try.info_pc rfl (by decide) rfl _ _ rfl (W3.heap.size + 1) (.slice na k nc) k (l2.flatMap PcT.cells) rfl (by have h9 := HP6.out.row; rw [HLK.out] at h9; exact owns_below h9 ((Below.refl _ _).alloc (Nat.le_refl _) _)) W6.heap.size 1 (PcT.cells x) rfl (heap_alloc_new _ _) rfl (by simp [Value.oneCell']) (by unfold maxLen; omega) (by omega) (by have h1 := lt_of_blk HP6.out.box; have h2 := HG15.out; rw [World.size_alloc]; omega) ?_
                     intro v5 w5 hd5 hg5 ho5
                     have hal : Below W6.heap.size W6 (W6.alloc (.cells (PcT.cells x).toArray 97)) := (Below.refl _ _).alloc (Nat.le_refl _) _
                     obtain ⟨sa, sc, hv5, _⟩ := row_form hd5
                     subst hv5
                     have HM5 : Hid (MkP W3 (w5.setCell ⟨g15, 0, none⟩ (.slice sa (k + 1) sc)) g15 L.gv false (.slice sa (k + 1) sc) (l2 ++ [x])) := (HP6.out.at hal).push (t := x) HG15.out.symm (by rw [HLK.out]; exact hd5) hg5
                     have hbx5 : w5.heap[g15]? = some (.cells #[.slice na k nc, .int .i64 L.gv, .bool false] 56 (0, 0)) := by
                       rw [(Chg.grown hg5).block g15 (Nat.lt_of_lt_of_le (lt_of_blk HP6.out.box) hal.size) (fun e => by have h2 := (row_block HP6.out.row g15 e).1; have h3 := HG15.out; omega)]
                       exact kept_block hal HP6.out.box
                     obtain ⟨d0, d1, d2⟩ := cells_3 hbx5
                     have fb5 := free_of hbx5
                     clear hd5 hg5 ho5 hal hbx5))
                go_roundw
                case rel => exact ⟨k + 1, sa, sc, by go_num, by omega, by rw [HT2.out]; exact HM5⟩
                case measure => simp [intOf]; omega
            · obtain rfl : k = qn := by omega
              have hge : ¬ (k : Int) < (k : Int) := by omega
              have HLA : Hid (l2 = L.fl.set i ⟨pn, ⟨pf, pt, tnB pb at' t⟩, true⟩) := by show _ = _; rw [← hl2, HTN.out, List.take_of_length_le (by rw [List.length_set, HQ.out]; exact Nat.le_refl _)]
              obtain ⟨n0, n1, n2⟩ := cells_3 HP.out.box
              have HB5 : Hid (wr.heap[g + 1]? = some (.cells #[.slice none 0 0, .int .i64 0, .bool false] 56 (0, 0))) := kept_block hbr HB3.out
              obtain ⟨r0, r1, r2⟩ := cells_3 HB5.out
              have fr := free_of HB5.out
              have HBR : Hid (Below w.heap.size w wr) := trans2 HBW3.out hbr
              clear hbr hl2
              go_wp2_with fail
              have hrow : FlAt wr (.slice na k nc) l2 := by
                have h9 := HP.out.row
                refine ⟨h9.1, ?_⟩
                rcases h9.2 with h | ⟨g', cap', cur, hv, hb, hr⟩
                · exact .inl h
                · exact .inr ⟨g', cap', cur, hv, Nat.zero_le _, hr⟩
              have e := HE.out
              subst e
              refine bodyPost_ret (results_cell_tmp rfl _ _ (g + 1) 56 _ (0, 0) _ _ rfl rfl (fill_3 HB5.out) Try.underlying56 rfl (by kernel_rfl)) rfl ⟨.slice na k nc, rfl, ?_, fillB_3 HBR.out (by rw [HG.out]; omega)⟩
              show FlAt _ _ (L.fl.set i ⟨pn, ⟨pf, pt, tnB pb at' t⟩, true⟩)
              rw [← HLA.out]
              exact row_other hrow (chg_put3 wr (g + 1) _ _ _) (Kind.one HB5.out) (by decide)
  · have hD := HR.out
    unfold LnT.spl at hD
    rw [hf] at hD
    have HD : Hid ((L, (160 : Int)) = R) := hD
    rw [hI]
    clear hI hf hD
    go_wp2_with fail
    have e := HD.out
    subst e
    exact bodyPost_ret (results_cell_tmp rfl _ _ (g + 1) 56 _ (0, 0) _ _ rfl rfl (fill_3 HB1.out) Try.underlying56 rfl (by kernel_rfl)) rfl ⟨_, rfl, FIN.out _ HBW1.out HB1.out⟩
end Go.Proofs.Ytfcobhgjkibdgaa
