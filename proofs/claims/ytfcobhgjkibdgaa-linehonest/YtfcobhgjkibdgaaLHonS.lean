/-
  heraldlaw16: step of what was sent.
-/
import Derived.Test.YtfcobhgjkibdgaaLHonP
import Derived.Test.YtfcobhgjkibdgaaLSit
namespace Go.Proofs.Ytfcobhgjkibdgaa
open Go.RowKit
set_option linter.unusedVariables false
set_option linter.unusedSimpArgs false

/-- A line and what was sent. -/
structure HoI (At : World → (Nat → Prop) → LnT → Value → Prop) (w0 w : World) (K : Nat → Prop) (L : LnT) (p : Value) (S : Nat) (nv mv gv : Value) (xs : List SnX) : Prop where
  at' : At w K L p
  ok : L.Ok
  sn : SnAt w S nv mv gv xs
  nk : ∀ j, SnK S nv mv gv j → ¬ K j
  lowK : ∀ j, K j → w0.heap.size ≤ j
  lowS : ∀ j, SnK S nv mv gv j → w0.heap.size ≤ j
  below : Below w0.heap.size w0 w
theorem HoI.call {At : World → (Nat → Prop) → LnT → Value → Prop} {w0 w w' : World} {K K' : Nat → Prop} {L L' : LnT} {p : Value} {S : Nat} {nv mv gv : Value} {xs : List SnX} (h : HoI At w0 w K L p S nv mv gv xs) (he : LnE At w K L' p w' K') (ho : L'.Ok) : HoI At w0 w' K' L' p S nv mv gv xs :=
  ⟨he.at', ho, h.sn.chg he.chg h.nk, fun j hj hk => (he.new j hk).elim (h.nk j hj) (fun e => by have := h.sn.lt j hj; omega), fun j hj => (he.new j hj).elim (h.lowK j) (fun e => Nat.le_trans h.below.size e), h.lowS, ⟨he.chg.os.trans h.below.os, he.chg.tape.trans h.below.tape, he.chg.output.trans h.below.output, Nat.le_trans h.below.size he.chg.size, fun k hk => (he.chg.block k (Nat.lt_of_lt_of_le hk h.below.size) (fun e => by have := h.lowK k e; omega)).trans (h.below.block k hk)⟩⟩
theorem HoI.at {At : World → (Nat → Prop) → LnT → Value → Prop} (sv : Lines At) {w0 w w' : World} {K : Nat → Prop} {L : LnT} {p : Value} {S : Nat} {nv mv gv : Value} {xs : List SnX} (h : HoI At w0 w K L p S nv mv gv xs) (hb : Below w.heap.size w w') : HoI At w0 w' K L p S nv mv gv xs :=
  ⟨sv.keep h.at' (Kp.of_below hb _), h.ok, h.sn.below hb, h.nk, h.lowK, h.lowS, trans2 h.below hb⟩
theorem HoI.put {At : World → (Nat → Prop) → LnT → Value → Prop} (sv : Lines At) {w0 w w' : World} {K : Nat → Prop} {L : LnT} {p : Value} {S : Nat} {nv mv gv nv' mv' gv' : Value} {xs xs' : List SnX} (h : HoI At w0 w K L p S nv mv gv xs) (he : SnE w w' S nv mv gv xs' nv' mv' gv') : HoI At w0 w' K L p S nv' mv' gv' xs' :=
  ⟨sv.keep h.at' ⟨he.chg.size, fun b hb hk => he.chg.block b hb (fun e => h.nk b e hk)⟩, h.ok, he.at', fun j hj hk => (he.new j hj).elim (fun e => h.nk j e hk) (fun e => by have := sv.lt h.at' j hk; omega), h.lowK, fun j hj => (he.new j hj).elim (h.lowS j) (fun e => Nat.le_trans h.below.size e), ⟨he.chg.os.trans h.below.os, he.chg.tape.trans h.below.tape, he.chg.output.trans h.below.output, Nat.le_trans h.below.size he.chg.size, fun k hk => (he.chg.block k (Nat.lt_of_lt_of_le hk h.below.size) (fun e => by have := h.lowS k e; omega)).trans (h.below.block k hk)⟩⟩
theorem SnAt.goneAt {w : World} {S : Nat} {nv mv gv : Value} {xs : List SnX} (h : SnAt w S nv mv gv xs) {i : Nat} {x : SnX} (hx : xs[i]? = some x) : ∃ g c, gv = .slice (some ⟨g, 0, none⟩) xs.length c ∧ w.cell? ⟨g, i, none⟩ = some (.bool x.2) ∧ w.frozen? ⟨g, i, none⟩ = false := by
  obtain ⟨a, c, rfl, _⟩ := row_form h.gone
  obtain ⟨g, cur, rfl, hg, hc⟩ := row_get1 (i := i) (x := .bool x.2) h.gone (by rw [List.getElem?_map, hx]; rfl)
  exact ⟨g, c, rfl, hc, free_of hg _⟩
theorem SnAt.msgAt {w : World} {S : Nat} {nv mv gv : Value} {xs : List SnX} (h : SnAt w S nv mv gv xs) {i : Nat} {x : SnX} (hx : xs[i]? = some x) : ∃ g c, mv = .slice (some ⟨g, 0, none⟩) xs.length c ∧ w.cell? ⟨g, i * 3, none⟩ = some (.int .i64 x.1.f) ∧ w.cell? ⟨g, i * 3 + 1, none⟩ = some (.int .i64 x.1.t) ∧ w.cell? ⟨g, i * 3 + 2, none⟩ = some (.string x.1.b) := by
  obtain ⟨a, c, rfl, _, _, hr⟩ := row_cells (cells := fun x : SnX => x.1.cells) (sz := 3) (fun _ => rfl) h.msgs
  rcases hr with h0 | ⟨g, rfl, _, _, _, hc⟩
  · rw [h0] at hx; cases hx
  · have hc := hc i x hx
    simp only [Nat.zero_add] at hc
    exact ⟨g, c, rfl, hc 0 _ rfl, hc 1 _ rfl, hc 2 _ rfl⟩
theorem HoI.setGone {At : World → (Nat → Prop) → LnT → Value → Prop} (sv : Lines At) {w0 w : World} {K : Nat → Prop} {L : LnT} {p : Value} {S : Nat} {nv mv : Value} {xs : List SnX} {i gg gc n : Nat} {x : SnX} (h : HoI At w0 w K L p S nv mv (.slice (some ⟨gg, 0, none⟩) n gc) xs) (hn : xs.length = n) (hx : xs[i]? = some x) : HoI At w0 (w.setCell ⟨gg, i, none⟩ (.bool true)) K L p S nv mv (.slice (some ⟨gg, 0, none⟩) n gc) (xs.set i (x.1, true)) := by
  subst hn
  have hc : Chg w (w.setCell ⟨gg, i, none⟩ (.bool true)) (fun j => j = gg) := Chg.set w ⟨gg, i, none⟩ _
  have hk := Kind.own h.sn.gone
  have hk' : Kind w (fun j => j = gg) 4 := fun j hj hl => hk j (by have hj : j = gg := hj; rw [hj]; rfl) hl
  have hsn : SnAt (w.setCell ⟨gg, i, none⟩ (.bool true)) S nv mv (.slice (some ⟨gg, 0, none⟩) xs.length gc) (xs.set i (x.1, true)) := by
    refine ⟨blk_other h.sn.box hc hk' (by decide), ?_, ?_, ?_⟩
    · rw [List.length_set]; exact row_other h.sn.nums hc hk' (by decide)
    · rw [List.length_set]
      have e : (xs.set i (x.1, true)).flatMap (fun x => x.1.cells) = xs.flatMap (fun x => x.1.cells) := by
        have e2 : (xs.set i (x.1, true)).map (fun x => x.1) = xs.map (fun x => x.1) := by
          rw [List.map_set]
          apply List.ext_getElem?
          intro j
          rw [List.getElem?_set]
          split
          · rename_i e
            subst e
            have := (List.getElem?_eq_some_iff.1 hx).1
            rw [if_pos (by simpa using this), List.getElem?_map, hx]
            rfl
          · rfl
        have e3 : ∀ l : List SnX, l.flatMap (fun x => x.1.cells) = (l.map (fun x => x.1)).flatMap MsT.cells := fun l => by rw [List.flatMap_map]
        rw [e3, e2, ← e3]
      rw [e]
      exact row_other h.sn.msgs hc hk' (by decide)
    · rw [List.length_set, List.map_set]
      exact row_set h.sn.gone
  have hkg : SnK S nv mv (.slice (some ⟨gg, 0, none⟩) xs.length gc) gg := .inr (.inr (.inr rfl))
  exact ⟨sv.keep h.at' ⟨hc.size, fun b hb hK => hc.block b hb (fun e => h.nk gg hkg (by have e : b = gg := e; rw [← e]; exact hK))⟩, h.ok, hsn, h.nk, h.lowK, h.lowS, h.below.setCell (h.lowS gg hkg) _⟩
theorem findN_at {k : Nat} {i : Nat} (h : i < k) : findN k ((i : Int) + 1) = i := by unfold findN; rw [if_pos (by omega)]; omega
theorem findN_cases (k : Nat) (n : Int) : (findN k n = -1 ∧ ∀ i : Nat, i < k → n ≠ (i : Int) + 1) ∨ ∃ i : Nat, i < k ∧ n = (i : Int) + 1 ∧ findN k n = i := by
  unfold findN
  by_cases h : 1 ≤ n ∧ n ≤ (k : Int)
  · rw [if_pos h]
    exact .inr ⟨(n - 1).toNat, by omega, by omega, by omega⟩
  · rw [if_neg h]
    exact .inl ⟨rfl, fun i hi e => h (by omega)⟩
set_option maxHeartbeats 6400000 in
set_option maxRecDepth 100000 in
theorem sstep_spoil {At : World → (Nat → Prop) → LnT → Value → Prop} (sv : Lines At) (w0 w : World) (K : Nat → Prop) (L : LnT) (p : Value) (S : Nat) (nv mv gv : Value) (xs : List SnX) (on n a t : Int) (ms : List MsT) (ma : Option Addr) (mn mc : Nat) (h : HoI At w0 w K L p S nv mv gv xs) (hon : Hon L xs) (hl : xs.length + 300 ≤ 1000000) (hw : (Lit.int .i64 n).wf = true) :
    Calls Try.prog 18 #[.pointer (some ⟨S, 0, none⟩), p, StL.val ⟨4, on, ms, n, a, t⟩ (.slice ma mn mc)] w fun e w' => e = .returned (.bool true) ∧ ∃ K' nv' mv' gv' xs', HoI At w0 w' K' (L.spl n a t).1 p S nv' mv' gv' xs' ∧ Hon (L.spl n a t).1 xs' ∧ xs'.length ≤ xs.length + 300 := by
  obtain ⟨W, hW⟩ : ∃ z, w.alloc (.cells #[.int .i64 4, .int .i64 on, .slice ma mn mc, .int .i64 n, .int .i64 a, .int .i64 t] 47) = z := ⟨_, rfl⟩
  obtain ⟨g, hg⟩ : ∃ z, w.heap.size = z := ⟨_, rfl⟩
  have hb : Below w.heap.size w W := by rw [← hW]; exact (Below.refl _ _).alloc (Nat.le_refl _) _
  have HB : Hid (W.heap[g]? = some (.cells #[.int .i64 4, .int .i64 on, .slice ma mn mc, .int .i64 n, .int .i64 a, .int .i64 t] 47 (0, 0))) := by show _ = _; rw [← hW, ← hg]; exact heap_alloc_new _ _
  have HI : Hid (HoI At w0 W K L p S nv mv gv xs) := h.at sv hb
  have HO : Hid (Hon L xs) := hon
  have HNK : Hid (¬ K g) := fun hk => by have := sv.lt h.at' g hk; omega
  have HW : Hid (_ = W) := hW
  have HG : Hid (w.heap.size = g) := hg
  have HBW : Hid (Below w.heap.size w W) := hb
  have HSP : Hid _ := sv.spoil W K L p n a t HI.out.at' HI.out.ok hw
  obtain ⟨b0, b1, b2, b3, b4, b5⟩ := cells_6b HB.out
  clear hW hg hb h hon hw
  go_enter Try.func18, Try.ntmps18
  go_upto_region 1 with fail
  rw [HW.out, HG.out]
  go_wp2_with fail
  refine Calls.mono HSP.out ?_
  rintro e w4 ⟨K4, rfl, hE⟩
  have HI4 : Hid (HoI At w0 w4 K4 (L.spl n a t).1 p S nv mv gv xs) := HI.out.call hE (HI.out.ok.spl n a t)
  clear hE
  go_wp2_with fail
  go_ret
  exact ⟨rfl, K4, _, _, _, xs, HI4.out, HO.out.spoil n a t, Nat.le_add_right _ _⟩
set_option maxHeartbeats 6400000 in
set_option maxRecDepth 100000 in
theorem sstep_else {At : World → (Nat → Prop) → LnT → Value → Prop} (sv : Lines At) (w0 w : World) (K : Nat → Prop) (L : LnT) (p : Value) (S : Nat) (nv mv gv : Value) (xs : List SnX) (kind on n a t : Int) (ms : List MsT) (ma : Option Addr) (mn mc : Nat) (h : HoI At w0 w K L p S nv mv gv xs) (hon : Hon L xs) (hl : xs.length + 300 ≤ 1000000) (hk : kind < 1 ∨ 4 < kind) :
    Calls Try.prog 18 #[.pointer (some ⟨S, 0, none⟩), p, StL.val ⟨kind, on, ms, n, a, t⟩ (.slice ma mn mc)] w fun e w' => e = .returned (.bool true) ∧ ∃ K' nv' mv' gv' xs', HoI At w0 w' K' L p S nv' mv' gv' xs' ∧ Hon L xs' ∧ xs'.length ≤ xs.length + 300 := by
  obtain ⟨W, hW⟩ : ∃ z, w.alloc (.cells #[.int .i64 kind, .int .i64 on, .slice ma mn mc, .int .i64 n, .int .i64 a, .int .i64 t] 47) = z := ⟨_, rfl⟩
  obtain ⟨g, hg⟩ : ∃ z, w.heap.size = z := ⟨_, rfl⟩
  have hb : Below w.heap.size w W := by rw [← hW]; exact (Below.refl _ _).alloc (Nat.le_refl _) _
  have HB : Hid (W.heap[g]? = some (.cells #[.int .i64 kind, .int .i64 on, .slice ma mn mc, .int .i64 n, .int .i64 a, .int .i64 t] 47 (0, 0))) := by show _ = _; rw [← hW, ← hg]; exact heap_alloc_new _ _
  have HI : Hid (HoI At w0 W K L p S nv mv gv xs) := h.at sv hb
  have HO : Hid (Hon L xs) := hon
  have HNK : Hid (¬ K g) := fun hk => by have := sv.lt h.at' g hk; omega
  have HW : Hid (_ = W) := hW
  have HG : Hid (w.heap.size = g) := hg
  have HBW : Hid (Below w.heap.size w W) := hb
  obtain ⟨b0, b1, b2, b3, b4, b5⟩ := cells_6b HB.out
  clear hW hg hb h hon
  go_enter Try.func18, Try.ntmps18
  go_upto_region 1 with fail
  rw [HW.out, HG.out]
  have e1 : (kind == 1) = false := by simp; omega
  have e2 : (kind == 2) = false := by simp; omega
  have e3 : (kind == 3) = false := by simp; omega
  have e4 : (kind == 4) = false := by simp; omega
  clear hk
  go_wp2_with fail
  go_ret
  exact ⟨rfl, K, _, _, _, xs, HI.out, HO.out, Nat.le_add_right _ _⟩
set_option maxHeartbeats 6400000 in
set_option maxRecDepth 100000 in
theorem sstep_double {At : World → (Nat → Prop) → LnT → Value → Prop} (sv : Lines At) (w0 w : World) (K : Nat → Prop) (L : LnT) (p : Value) (S : Nat) (nv mv gv : Value) (xs : List SnX) (on n a t : Int) (ms : List MsT) (ma : Option Addr) (mn mc : Nat) (h : HoI At w0 w K L p S nv mv gv xs) (hon : Hon L xs) (hl : xs.length + 300 ≤ 1000000) (hgm : L.gv + 300 ≤ MaxG) (hw : (Lit.int .i64 n).wf = true) :
    Calls Try.prog 18 #[.pointer (some ⟨S, 0, none⟩), p, StL.val ⟨3, on, ms, n, a, t⟩ (.slice ma mn mc)] w fun e w' => e = .returned (.bool true) ∧ ∃ K' nv' mv' gv' xs', HoI At w0 w' K' (L.dbl n).1 p S nv' mv' gv' xs' ∧ Hon (L.dbl n).1 xs' ∧ xs'.length ≤ xs.length + 300 := by
  obtain ⟨W, hW⟩ : ∃ z, w.alloc (.cells #[.int .i64 3, .int .i64 on, .slice ma mn mc, .int .i64 n, .int .i64 a, .int .i64 t] 47) = z := ⟨_, rfl⟩
  obtain ⟨g, hg⟩ : ∃ z, w.heap.size = z := ⟨_, rfl⟩
  have hb : Below w.heap.size w W := by rw [← hW]; exact (Below.refl _ _).alloc (Nat.le_refl _) _
  have HB : Hid (W.heap[g]? = some (.cells #[.int .i64 3, .int .i64 on, .slice ma mn mc, .int .i64 n, .int .i64 a, .int .i64 t] 47 (0, 0))) := by show _ = _; rw [← hW, ← hg]; exact heap_alloc_new _ _
  have HI : Hid (HoI At w0 W K L p S nv mv gv xs) := h.at sv hb
  have HO : Hid (Hon L xs) := hon
  have HNK : Hid (¬ K g) := fun hk => by have := sv.lt h.at' g hk; omega
  have HW : Hid (_ = W) := hW
  have HG : Hid (w.heap.size = g) := hg
  have HBW : Hid (Below w.heap.size w W) := hb
  have HDB : Hid _ := sv.double W K L p n HI.out.at' HI.out.ok (by omega) hw
  obtain ⟨b0, b1, b2, b3, b4, b5⟩ := cells_6b HB.out
  clear hW hg hb h hon hw
  go_enter Try.func18, Try.ntmps18
  go_upto_region 1 with fail
  rw [HW.out, HG.out]
  obtain ⟨R, hR⟩ : ∃ z, L.dbl n = z := ⟨_, rfl⟩
  rw [hR] at HDB
  have HR : Hid (L.dbl n = R) := hR
  have hRO : R.1.Ok := by rw [← hR]; exact HI.out.ok.dbl n
  clear hR
  go_wp2_with fail
  refine Calls.mono HDB.out ?_
  rintro e w4 ⟨K4, rfl, hE⟩
  have HI4 : Hid (HoI At w0 w4 K4 R.1 p S nv mv gv xs) := HI.out.call hE hRO
  have hB4 : w4.heap[g]? = some (.cells #[.int .i64 3, .int .i64 on, .slice ma mn mc, .int .i64 n, .int .i64 a, .int .i64 t] 47 (0, 0)) := by rw [hE.chg.block g (lt_of_blk HB.out) HNK.out]; exact HB.out
  have HFN : Hid _ := sfind_any S nv mv gv xs n w4 HI4.out.sn (by omega)
  have HLV : Hid _ := live_any S nv mv gv xs w4 HI4.out.sn (by omega)
  obtain ⟨F, hF⟩ : ∃ z, findN xs.length n = z := ⟨_, rfl⟩
  rw [hF] at HFN
  have HF : Hid (findN xs.length n = F) := hF
  clear hE hRO hF b0 b1 b2 b3 b4 b5
  obtain ⟨b0, b1, b2, b3, b4, b5⟩ := cells_6b hB4
  clear hB4
  go_wp2_with fail
  refine Calls.mono HFN.out ?_
  rintro e w5 ⟨rfl, hw5⟩
  have hw6 := hw5.symm
  subst hw6
  clear b0 b1 b2 b3 b4 b5 hw5
  obtain ⟨c0, c1, c2⟩ := cells_3 HI4.out.sn.box
  have hcase : (∃ q, fnd L.fl n = some q) ∨ fnd L.fl n = none := by cases hq : fnd L.fl n with | none => exact .inr rfl | some q => exact .inl ⟨q, rfl⟩
  rcases hcase with ⟨q, hq⟩ | hq
  · obtain ⟨i, x, hn, hpn, hx, hxb, hnr, hns⟩ := HO.out.at hq
    have hil := (List.getElem?_eq_some_iff.1 hx).1
    obtain ⟨k, hk⟩ : ∃ z, xs.length = z := ⟨_, rfl⟩
    have hFi : F = (i : Int) := by rw [← HF.out, hn]; exact findN_at hil
    subst hFi
    obtain ⟨gg, gc, hgv, hgc, hgf⟩ := HI4.out.sn.goneAt hx
    obtain ⟨mg, mc', hmv, m0, m1, m2⟩ := HI4.out.sn.msgAt hx
    subst hgv hmv
    have hik : (i : Int) < (xs.length : Int) := by omega
    have hi0 : ¬ (i : Int) < 0 := by omega
    rw [hxb] at hgc
    have hRe := HR.out
    unfold LnT.dbl at hRe
    rw [hq] at hRe
    dsimp only at hRe
    by_cases hful : 256 ≤ L.fl.length
    · rw [HO.out.full q.m q.s hful, if_pos (by show (-1 : Int) < 0; decide)] at hRe
      subst hRe
      have HLN : Hid (liveN xs = L.fl.length) := HO.out.live
      rw [HLN.out] at HLV
      have hfi : (256 : Int) ≤ (L.fl.length : Int) := by omega
      obtain ⟨fl, hfl⟩ : ∃ z, L.fl.length = z := ⟨_, rfl⟩
      rw [hfl] at HLV hfi
      have HXX : Hid (L.dbl n = (L, 0, 46)) := HR.out
      clear hx hpn hnr hns hxb hil hk hn hq hful hfl m0 m1 m2
      go_wp2_with (first
        | (go_at_call 15; refine (num_any _ _).mono ?_; rintro e w' ⟨rfl, hw'⟩; have hw2 := hw'.symm; subst hw2)
        | (go_at_call 20; refine Calls.mono HLV.out ?_; rintro e w' ⟨rfl, hw'⟩; have hw2 := hw'.symm; subst hw2)
        | fail)
      go_ret
      rw [HXX.out]
      exact ⟨rfl, K4, _, _, _, xs, HI4.out, HO.out, Nat.le_add_right _ _⟩
    · obtain ⟨hp1, hp2⟩ := HO.out.put x.1 q.m q.s (by omega) hnr hns
      rw [if_neg (by rw [hp2]; omega)] at hRe
      have HRe : Hid ((L.put q.m q.s).1 = R.1) := by show _ = _; rw [← hRe]
      have hr1 : R.2.1 = (xs.length : Int) + 1 := by rw [← hRe]; exact hp2
      have hr2 : R.2.2 = 0 := by rw [← hRe]
      obtain ⟨R1, R21, R22⟩ := R
      simp only at hr1 hr2
      subst hr1 hr2
      have HP : Hid _ := sput_ok S nv _ _ xs x.1 w4 HI4.out.sn (by omega)
      have HHN : Hid (Hon R1 (xs ++ [(x.1, false)])) := by have h9 := hp1; rw [HRe.out] at h9; exact h9
      clear hx hpn hnr hns hxb hil hk hn hq hful hRe hp1 hp2
      go_wp2_with (first
        | (go_at_call 15; refine (num_any _ _).mono ?_; rintro e w' ⟨rfl, hw'⟩; have hw2 := hw'.symm; subst hw2)
        | fail)
      refine Calls.mono HP.out ?_
      rintro e w6 ⟨nv', mv', gv', rfl, hse⟩
      have HI6 : Hid (HoI At w0 w6 K4 R1 p S nv' mv' gv' (xs ++ [(x.1, false)])) := HI4.out.put sv hse
      clear hse
      go_wp2_with fail
      go_ret
      rw [HR.out]
      exact ⟨rfl, K4, _, _, _, _, HI6.out, HHN.out, by rw [List.length_append]; simp⟩
  · have hRe := HR.out
    unfold LnT.dbl at hRe
    rw [hq] at hRe
    dsimp only at hRe
    subst hRe
    have HXX : Hid (L.dbl n = (L, 0, 160)) := HR.out
    rcases findN_cases xs.length n with ⟨hf, _⟩ | ⟨i, hi, hn, hf⟩
    · have hFi : F = -1 := by rw [← HF.out]; exact hf
      subst hFi
      clear hq hf
      go_wp2_with (first
        | (go_at_call 15; refine (num_any _ _).mono ?_; rintro e w' ⟨rfl, hw'⟩; have hw2 := hw'.symm; subst hw2)
        | fail)
      go_ret
      rw [HXX.out]
      exact ⟨rfl, K4, _, _, _, xs, HI4.out, HO.out, Nat.le_add_right _ _⟩
    · have hFi : F = (i : Int) := by rw [← HF.out]; exact hf
      subst hFi
      have hx : xs[i]? = some xs[i] := List.getElem?_eq_getElem hi
      have hxb : xs[i].2 = true := by
        cases hb : xs[i].2 with
        | true => rfl
        | false =>
          obtain ⟨q, hq2⟩ := (HO.out.find n).2 ⟨i, xs[i], hn, hx, hb⟩
          rw [hq] at hq2
          cases hq2
      obtain ⟨gg, gc, hgv, hgc, hgf⟩ := HI4.out.sn.goneAt hx
      subst hgv
      rw [hxb] at hgc
      have hik : (i : Int) < (xs.length : Int) := by omega
      have hi0 : ¬ (i : Int) < 0 := by omega
      clear hx hxb hn hf hq
      go_wp2_with (first
        | (go_at_call 15; refine (num_any _ _).mono ?_; rintro e w' ⟨rfl, hw'⟩; have hw2 := hw'.symm; subst hw2)
        | fail)
      go_ret
      rw [HXX.out]
      exact ⟨rfl, K4, _, _, _, xs, HI4.out, HO.out, Nat.le_add_right _ _⟩
end Go.Proofs.Ytfcobhgjkibdgaa
