/-
  heraldlaw16: step of what was sent: Take, Send.
-/
import Derived.Test.YtfcobhgjkibdgaaLHonS
import Derived.Deep.CutRange
namespace Go.Proofs.Ytfcobhgjkibdgaa
open Go.RowKit
set_option linter.unusedVariables false
set_option linter.unusedSimpArgs false

set_option maxHeartbeats 6400000 in
set_option maxRecDepth 100000 in
theorem sstep_take {At : World → (Nat → Prop) → LnT → Value → Prop} (sv : Lines At) (w0 w : World) (K : Nat → Prop) (L : LnT) (p : Value) (S : Nat) (nv mv gv : Value) (xs : List SnX) (on n a t : Int) (ms : List MsT) (ma : Option Addr) (mn mc : Nat) (h : HoI At w0 w K L p S nv mv gv xs) (hon : Hon L xs) (hl : xs.length + 300 ≤ 1000000) (hw : (Lit.int .i64 n).wf = true) :
    Calls Try.prog 18 #[.pointer (some ⟨S, 0, none⟩), p, StL.val ⟨2, on, ms, n, a, t⟩ (.slice ma mn mc)] w fun e w' => e = .returned (.bool true) ∧ ∃ K' nv' mv' gv' xs', HoI At w0 w' K' (L.tak n).1 p S nv' mv' gv' xs' ∧ Hon (L.tak n).1 xs' ∧ xs'.length ≤ xs.length + 300 := by
  obtain ⟨W, hW⟩ : ∃ z, w.alloc (.cells #[.int .i64 2, .int .i64 on, .slice ma mn mc, .int .i64 n, .int .i64 a, .int .i64 t] 47) = z := ⟨_, rfl⟩
  obtain ⟨g, hg⟩ : ∃ z, w.heap.size = z := ⟨_, rfl⟩
  have hb : Below w.heap.size w W := by rw [← hW]; exact (Below.refl _ _).alloc (Nat.le_refl _) _
  have HB : Hid (W.heap[g]? = some (.cells #[.int .i64 2, .int .i64 on, .slice ma mn mc, .int .i64 n, .int .i64 a, .int .i64 t] 47 (0, 0))) := by show _ = _; rw [← hW, ← hg]; exact heap_alloc_new _ _
  have HI : Hid (HoI At w0 W K L p S nv mv gv xs) := h.at sv hb
  have HO : Hid (Hon L xs) := hon
  have HNK : Hid (¬ K g) := fun hk => by have := sv.lt h.at' g hk; omega
  have HW : Hid (_ = W) := hW
  have HG : Hid (w.heap.size = g) := hg
  have HBW : Hid (Below w.heap.size w W) := hb
  have HTK : Hid _ := sv.take W K L p n HI.out.at' HI.out.ok hw
  obtain ⟨b0, b1, b2, b3, b4, b5⟩ := cells_6b HB.out
  clear hW hg hb h hon hw
  go_enter Try.func18, Try.ntmps18
  go_upto_region 1 with fail
  rw [HW.out, HG.out]
  obtain ⟨R, hR⟩ : ∃ z, L.tak n = z := ⟨_, rfl⟩
  rw [hR] at HTK
  have HR : Hid (L.tak n = R) := hR
  have hRO : R.1.Ok := by rw [← hR]; exact HI.out.ok.tak n
  clear hR
  go_wp2_with fail
  refine Calls.mono HTK.out ?_
  rintro e w4 ⟨K4, rfl, hE⟩
  obtain ⟨W5, hW5⟩ : ∃ z, w4.alloc (.cells #[.int .i64 R.2.1.f, .int .i64 R.2.1.t, .string R.2.1.b] 23) = z := ⟨_, rfl⟩
  obtain ⟨g5, hg5⟩ : ∃ z, w4.heap.size = z := ⟨_, rfl⟩
  have hb5 : Below w4.heap.size w4 W5 := by rw [← hW5]; exact (Below.refl _ _).alloc (Nat.le_refl _) _
  have HX5 : Hid (W5.heap[g5]? = some (.cells #[.int .i64 R.2.1.f, .int .i64 R.2.1.t, .string R.2.1.b] 23 (0, 0))) := by show _ = _; rw [← hW5, ← hg5]; exact heap_alloc_new _ _
  have HI5 : Hid (HoI At w0 W5 K4 R.1 p S nv mv gv xs) := (HI.out.call hE hRO).at sv hb5
  have hB5 : W5.heap[g]? = some (.cells #[.int .i64 2, .int .i64 on, .slice ma mn mc, .int .i64 n, .int .i64 a, .int .i64 t] 47 (0, 0)) := kept_block hb5 (by rw [hE.chg.block g (lt_of_blk HB.out) HNK.out]; exact HB.out)
  have HFN : Hid _ := sfind_any S nv mv gv xs n W5 HI5.out.sn (by omega)
  obtain ⟨F, hF⟩ : ∃ z, findN xs.length n = z := ⟨_, rfl⟩
  rw [hF] at HFN
  have HF : Hid (findN xs.length n = F) := hF
  have HW5 : Hid (_ = W5) := hW5
  have HG5 : Hid (w4.heap.size = g5) := hg5
  have HN5 : Hid (∀ j, SnK S nv mv gv j → j ≠ g5) := fun j hj e => by have := (HI.out.call hE hRO).sn.lt j hj; omega
  clear hE hRO hF hW5 hg5 hb5
  go_upto_region 15 with fail
  rw [HW5.out, HG5.out]
  clear b0 b1 b2 b3 b4 b5
  obtain ⟨b0, b1, b2, b3, b4, b5⟩ := cells_6b hB5
  clear hB5
  go_wp2_with fail
  refine Calls.mono HFN.out ?_
  rintro e w6 ⟨rfl, hw6⟩
  have hw7 := hw6.symm
  subst hw7
  clear b0 b1 b2 b3 b4 b5 hw6
  obtain ⟨c0, c1, c2⟩ := cells_3 HI5.out.sn.box
  obtain ⟨x0, x1, x2⟩ := cells_3 HX5.out
  have hcase : (∃ q, fnd L.fl n = some q) ∨ fnd L.fl n = none := by cases hq : fnd L.fl n with | none => exact .inr rfl | some q => exact .inl ⟨q, rfl⟩
  rcases hcase with ⟨q, hq⟩ | hq
  · obtain ⟨i, x, hn, hpn, hx, hxb, hnr, hns⟩ := HO.out.at hq
    have hil := (List.getElem?_eq_some_iff.1 hx).1
    have hFi : F = (i : Int) := by rw [← HF.out, hn]; exact findN_at hil
    subst hFi
    obtain ⟨gg, gc, hgv, hgc, hgf⟩ := HI5.out.sn.goneAt hx
    obtain ⟨mg, mc', hmv, m0, m1, m2⟩ := HI5.out.sn.msgAt hx
    subst hgv hmv
    have hik : (i : Int) < (xs.length : Int) := by omega
    have hi0 : ¬ (i : Int) < 0 := by omega
    rw [hxb] at hgc
    have hRe := HR.out
    unfold LnT.tak at hRe
    rw [hq] at hRe
    dsimp only at hRe
    have hr1 : R.2.1 = q.m := by rw [← hRe]
    have hr2 : R.2.2 = 0 := by rw [← hRe]
    obtain ⟨R1, R21, R22⟩ := R
    simp only at hr1 hr2
    subst hr1 hr2
    have HQS : Hid (q.m.b.size ≤ 1000000) := Nat.le_trans (HI.out.ok.small q (fnd_mem hq).1) (by decide)
    have HNC : Hid (∀ w', _) := fun w' => near_ok q.m x.1 w' hnr HQS.out
    have HXI : Hid (xs[i]? = some x) := hx
    have HHT : Hid (Hon R1 (xs.set i (x.1, true))) := by
      have h9 := HO.out.take (by rw [← hn]; exact hq) hx
      rw [← hn, HR.out] at h9
      exact h9
    have HLI : Hid (xs.length + 0 = xs.length) := rfl
    obtain ⟨xn, hxn⟩ : ∃ z, xs.length = z := ⟨_, rfl⟩
    have HXN : Hid (xs.length = xn) := hxn
    rw [hxn] at HI5 c1 c2 hik
    dsimp only at x0 x1 x2 HX5 HI5 ⊢
    have HSW : Hid (∀ w', Below W5.heap.size W5 w' → w'.cell? ⟨S, 0, none⟩ = some nv ∧ w'.cell? ⟨S, 1, none⟩ = some (.slice (some ⟨mg, 0, none⟩) xn mc') ∧ w'.cell? ⟨S, 2, none⟩ = some (.slice (some ⟨gg, 0, none⟩) xn gc) ∧ w'.cell? ⟨gg, i, none⟩ = some (.bool false) ∧ w'.cell? ⟨mg, i * 3, none⟩ = some (.int .i64 x.1.f) ∧ w'.cell? ⟨mg, i * 3 + 1, none⟩ = some (.int .i64 x.1.t) ∧ w'.cell? ⟨mg, i * 3 + 2, none⟩ = some (.string x.1.b) ∧ w'.cell? ⟨g5, 0, none⟩ = some (.int .i64 q.m.f) ∧ w'.cell? ⟨g5, 1, none⟩ = some (.int .i64 q.m.t) ∧ w'.cell? ⟨g5, 2, none⟩ = some (.string q.m.b)) := fun w' hb => by
      have k : ∀ {b o v}, b < W5.heap.size → W5.cell? ⟨b, o, none⟩ = some v → w'.cell? ⟨b, o, none⟩ = some v := fun hl hv => by rw [hb.cell (p := ⟨_, _, none⟩) hl]; exact hv
      have l1 := HI5.out.sn.lt S (.inl rfl)
      have l2 := HI5.out.sn.lt gg (.inr (.inr (.inr rfl)))
      have l3 := HI5.out.sn.lt mg (.inr (.inr (.inl rfl)))
      have l4 := lt_of_blk HX5.out
      exact ⟨k l1 c0, k l1 c1, k l1 c2, k l2 hgc, k l3 m0, k l3 m1, k l3 m2, k l4 x0, k l4 x1, k l4 x2⟩
    clear hx hpn hnr hns hxb hil hn hq hRe hxn
    go_upto_region 18 with (first
      | (go_at_call 15; refine (num_any _ _).mono ?_; rintro e w' ⟨rfl, hw'⟩; have hw2 := hw'.symm; subst hw2)
      | fail)
    go_region_held3 (fun w' => w'.cell? ⟨S, 0, none⟩ = some nv ∧ w'.cell? ⟨S, 1, none⟩ = some (.slice (some ⟨mg, 0, none⟩) xn mc') ∧ w'.cell? ⟨S, 2, none⟩ = some (.slice (some ⟨gg, 0, none⟩) xn gc) ∧ w'.cell? ⟨gg, i, none⟩ = some (.bool false) ∧ w'.cell? ⟨mg, i * 3, none⟩ = some (.int .i64 x.1.f) ∧ w'.cell? ⟨mg, i * 3 + 1, none⟩ = some (.int .i64 x.1.t) ∧ w'.cell? ⟨mg, i * 3 + 2, none⟩ = some (.string x.1.b) ∧ w'.cell? ⟨g5, 0, none⟩ = some (.int .i64 q.m.f) ∧ w'.cell? ⟨g5, 1, none⟩ = some (.int .i64 q.m.t) ∧ w'.cell? ⟨g5, 2, none⟩ = some (.string q.m.b))
      (first
      | (refine HSW.out _ ?_; repeat (first | exact Below.refl _ _ | exact HB8.out | refine below_drew ?_))
      | go_keep)
      (first
      | (go_at_call 17
         refine (HNC.out _).mono ?_
         rintro e w8 ⟨rfl, hb8⟩
         have HB8 : Hid (Below W5.heap.size W5 w8) := of_drew hb8
         clear hb8))
    all_goals
      have HI8 : Hid (HoI At w0 w8 K4 R1 p S nv (.slice (some ⟨mg, 0, none⟩) xn mc') (.slice (some ⟨gg, 0, none⟩) xn gc) xs) := HI5.out.at sv HB8.out
      obtain ⟨y0, y1, y2⟩ := cells_3 HI8.out.sn.box
      obtain ⟨gg', gc'', hge, hgc8, hgf8⟩ := HI8.out.sn.goneAt HXI.out
      rw [HXN.out] at hge
      cases hge
      have HI9 : Hid (HoI At w0 (w8.setCell ⟨gg, i, none⟩ (.bool true)) K4 R1 p S nv (.slice (some ⟨mg, 0, none⟩) xn mc') (.slice (some ⟨gg, 0, none⟩) xn gc) (xs.set i (x.1, true))) := HI8.out.setGone sv HXN.out HXI.out
      clear c0 c1 c2 x0 x1 x2 m0 m1 m2 hgc hgf
      go_wp2_with fail
      go_ret
      rw [HR.out]
      exact ⟨rfl, K4, _, _, _, _, HI9.out, HHT.out, by rw [List.length_set]; exact Nat.le_add_right _ _⟩
  · have hRe := HR.out
    unfold LnT.tak at hRe
    rw [hq] at hRe
    dsimp only at hRe
    subst hRe
    have HXX : Hid (L.tak n = (L, msZ, 160)) := HR.out
    simp only [msZ] at x0 x1 x2
    rcases findN_cases xs.length n with ⟨hf, _⟩ | ⟨i, hi, hn, hf⟩
    · have hFi : F = -1 := by rw [← HF.out]; exact hf
      subst hFi
      clear hq hf
      go_wp2_with (first
        | (go_at_call 15; refine (num_any _ _).mono ?_; rintro e w' ⟨rfl, hw'⟩; have hw2 := hw'.symm; subst hw2)
        | fail)
      go_ret
      rw [HXX.out]
      exact ⟨rfl, K4, _, _, _, xs, HI5.out, HO.out, Nat.le_add_right _ _⟩
    · have hFi : F = (i : Int) := by rw [← HF.out]; exact hf
      subst hFi
      have hx : xs[i]? = some xs[i] := List.getElem?_eq_getElem hi
      have hxb : xs[i].2 = true := by
        cases hb : xs[i].2 with
        | true => rfl
        | false =>
          obtain ⟨q, hq2⟩ := (HO.out.find n).2 ⟨i, xs[i], hn, hx, hb⟩
          rw [hq] at hq2
          cases hq2
      obtain ⟨gg, gc, hgv, hgc, hgf⟩ := HI5.out.sn.goneAt hx
      subst hgv
      rw [hxb] at hgc
      have hik : (i : Int) < (xs.length : Int) := by omega
      have hi0 : ¬ (i : Int) < 0 := by omega
      clear hx hxb hn hf hq
      go_wp2_with (first
        | (go_at_call 15; refine (num_any _ _).mono ?_; rintro e w' ⟨rfl, hw'⟩; have hw2 := hw'.symm; subst hw2)
        | fail)
      go_ret
      rw [HXX.out]
      exact ⟨rfl, K4, _, _, _, xs, HI5.out, HO.out, Nat.le_add_right _ _⟩
end Go.Proofs.Ytfcobhgjkibdgaa
