/-
  heraldlaw16: LineNothing.
-/
import Derived.Test.YtfcobhgjkibdgaaLOnly
namespace Go.Proofs.Ytfcobhgjkibdgaa
open Go.RowKit
set_option linter.unusedVariables false
set_option linter.unusedSimpArgs false

theorem send_nil : ∀ l : List MsT, (lnN.send l).1 = lnN
  | [] => rfl
  | m :: l => by show ((lnN.put m false).1.send l).1 = lnN; exact send_nil l
theorem step_nil (s : StL) : lnN.step s = lnN := by
  unfold LnT.step
  split
  · exact send_nil _
  · split
    · rfl
    · split
      · rfl
      · split <;> rfl
theorem OnI.nilv {At : World → (Nat → Prop) → LnT → Value → Prop} {w wr : World} {K : Nat → Prop} {p v : Value} {D : Nat} {rv : Value} {b : Nat} {cs : Array Value} (h : OnI At w wr K lnN p v D rv b cs) : OnI At w wr K lnN p (.slice none 0 0) D rv b cs :=
  ⟨⟨h.sit.at', h.sit.ok, owns_nil _ _ _ _, h.sit.desk, h.sit.row, h.sit.nkD, h.sit.nkR⟩, h.box, h.nb, h.lowK, h.lowD, h.lowR, h.lowB, h.below⟩
set_option maxHeartbeats 6400000 in
set_option maxRecDepth 100000 in
theorem LineNothing_walk {At : World → (Nat → Prop) → LnT → Value → Prop} (sv : Lines At) (v : Value) (l : List StL) (w : World) (hl : StsAt w (fun b => b < w.heap.size) v l) (hwf : ∀ x ∈ l, (Lit.int .i64 x.n).wf = true) :
    Calls Try.prog 6 #[v] w fun e w' => e = .returned (.bool true) ∧ Below w.heap.size w w' := by
  obtain ⟨sa, sc, rfl, _⟩ := RowAt.form hl
  obtain ⟨sn, hsn⟩ : ∃ z, l.length = z := ⟨_, rfl⟩
  rw [hsn] at hl ⊢
  have HSN : Hid (l.length = sn) := hsn
  have HL : Hid (StsAt w (fun b => b < w.heap.size) (.slice sa sn sc) l) := hl
  have HKN : Hid (∀ w', _) := fun w' => known_any sv w'
  have HWF : Hid (∀ x ∈ l, (Lit.int .i64 x.n).wf = true) := hwf
  clear hsn hl hwf
  go_enter Try.func6, Try.ntmps6
  obtain ⟨hA, hB, hbel⟩ := pair_blocks (w := w) (t := 56) (cs := #[.slice none 0 0, .int .i64 0, .bool true]) (t' := 59) (cs' := #[.slice none 0 0])
  obtain ⟨W3, hW3⟩ : ∃ z, ((w.alloc (.cells #[.slice none 0 0, .int .i64 0, .bool true] 56)).alloc (.cells #[.slice none 0 0] 59)) = z := ⟨_, rfl⟩
  rw [hW3] at hA hB hbel
  obtain ⟨g8, hg8⟩ : ∃ z, w.heap.size = z := ⟨_, rfl⟩
  rw [hg8] at hA hB
  have HI0 : Hid (OnI At w W3 (fun _ => False) lnN (.pointer none) (.slice none 0 0) (g8 + 1) (.slice none 0 0) g8 #[.slice none 0 0, .int .i64 0, .bool true]) :=
    ⟨⟨sv.nil _, okN, owns_nil _ _ _ _, hB, ⟨0, [], owns_nil _ _ _ _⟩, (fun hk => hk), (fun j hj => by cases hj)⟩, hA, (fun hk => hk), (fun j hk => hk.elim), by omega, (fun j hj => by cases hj), by omega, hbel⟩
  have HW3 : Hid (_ = W3) := hW3
  have HG8 : Hid (w.heap.size = g8) := hg8
  clear hA hB hbel hW3 hg8
  go_upto_region 4 with fail
  rw [HW3.out]
  try rw [show (w.alloc (.cells #[.slice none 0 0, .int .i64 0, .bool true] 56)).heap.size = w.heap.size + 1 by simp]
  rw [HG8.out]
  go_wp2_with fail
  go_loopw [6, 7, 8] (fun i _ _ wr => ∃ (q : Nat) (K : Nat → Prop) (rv : Value), i = .int .i64 q ∧ q ≤ sn ∧ q ≤ 120 ∧ Hid (OnI At w wr K lnN (.pointer none) (.slice none 0 0) (g8 + 1) rv g8 #[.slice none 0 0, .int .i64 0, .bool true])) (fun i _ _ _ => sn - (intOf i).toNat)
  case atStart => exact ⟨0, _, _, rfl, Nat.zero_le _, Nat.zero_le _, HI0⟩
  case round =>
    obtain ⟨q, K, rv, rfl, hq, hq1, HI⟩ := hrel
    by_cases hlt : q < sn
    · have hqi : (q : Int) < (sn : Int) := by omega
      by_cases h120 : q < 120
      · have hqj : (q : Int) < 120 := by omega
        obtain ⟨s, hs⟩ : ∃ s, l[q]? = some s := ⟨l[q]'(by rw [HSN.out]; exact hlt), List.getElem?_eq_getElem _⟩
        obtain ⟨sb, so, rfl, hsb, _, mv, hE⟩ := RowAt.get HL.out hs
        obtain ⟨ma, mc, rfl, _⟩ := RowAt.form hE.ms
        obtain ⟨mn, hmn⟩ : ∃ z, s.ms.length = z := ⟨_, rfl⟩
        rw [hmn] at hE
        have HEE : Hid (stE w (fun b => b < w.heap.size) sb (so + q * 6) s (.slice ma mn mc)) := hE
        have HPL : Hid (∀ w', Below wr.heap.size wr w' → _) := fun w' hb => plays_any sv w' K lnN (.pointer none) (.slice none 0 0) (g8 + 1) rv s (.slice ma mn mc) (fun b => b < w.heap.size) (HI.out.at sv hb).sit (by decide) (MssAt.keep HEE.out.ms (Kp.of_below (trans2 HI.out.below hb) _)) (HWF.out s (List.mem_of_getElem? hs))
        have HSW : Hid (∀ w', Chg wr w' (fun j => K j ∨ j = g8 + 1 ∨ rv.ownBlock = some j) → w'.cell? ⟨g8, 0, none⟩ = some (.slice none 0 0) ∧ w'.cell? ⟨g8, 1, none⟩ = some (.int .i64 0) ∧ w'.cell? ⟨g8, 2, none⟩ = some (.bool true) ∧ w'.cell? ⟨sb, so + q * 6, none⟩ = some (.int .i64 s.kind) ∧ w'.cell? ⟨sb, so + q * 6 + 1, none⟩ = some (.int .i64 s.on) ∧ w'.cell? ⟨sb, so + q * 6 + 2, none⟩ = some (.slice ma mn mc) ∧ w'.cell? ⟨sb, so + q * 6 + 3, none⟩ = some (.int .i64 s.n) ∧ w'.cell? ⟨sb, so + q * 6 + 4, none⟩ = some (.int .i64 s.a) ∧ w'.cell? ⟨sb, so + q * 6 + 5, none⟩ = some (.int .i64 s.t)) := fun w' hc => by
          obtain ⟨c0, c1, c2⟩ := cells_3 HI.out.box
          have e8 := hc.block g8 (lt_of_blk HI.out.box) (HI.out.out sv g8 (.inl rfl))
          have hsw : sb < wr.heap.size := Nat.lt_of_lt_of_le hsb HI.out.below.size
          have es := hc.block sb hsw (HI.out.out sv sb (.inr (.inl hsb)))
          have k8 : ∀ {o v}, wr.cell? ⟨g8, o, none⟩ = some v → w'.cell? ⟨g8, o, none⟩ = some v := fun hv => by rw [World.cell?_of_block (w := wr) e8]; exact hv
          have ks : ∀ {o v}, w.cell? ⟨sb, o, none⟩ = some v → w'.cell? ⟨sb, o, none⟩ = some v := fun hv => by rw [World.cell?_of_block (w := wr) es, HI.out.below.cell (p := ⟨sb, _, none⟩) hsb]; exact hv
          exact ⟨k8 c0, k8 c1, k8 c2, ks HEE.out.kind, ks HEE.out.on, ks HEE.out.cu, ks HEE.out.n, ks HEE.out.a, ks HEE.out.t⟩
        rw [step_nil] at HPL
        obtain ⟨c0, c1, c2, s0, s1, s2, s3, s4, s5⟩ := HSW.out wr (Chg.refl _ _)
        have HSB : Hid (sb < w.heap.size) := hsb
        clear hs hE hmn hsb
        go_upto_region 7 with fail
        go_cut [7, 8] from 12 to 34 (fun s7 s8 wc => ∃ (K' : Nat → Prop) (rv' : Value), s8 = .bool true ∧ Hid (OnI At w wc K' lnN (.pointer none) (.slice none 0 0) (g8 + 1) rv' g8 #[.slice none 0 0, .int .i64 0, .bool true]))
        case first =>
          go_region_held3 (fun w' => w'.cell? ⟨g8, 0, none⟩ = some (.slice none 0 0) ∧ w'.cell? ⟨g8, 1, none⟩ = some (.int .i64 0) ∧ w'.cell? ⟨g8, 2, none⟩ = some (.bool true) ∧ w'.cell? ⟨sb, so + q * 6, none⟩ = some (.int .i64 s.kind) ∧ w'.cell? ⟨sb, so + q * 6 + 1, none⟩ = some (.int .i64 s.on) ∧ w'.cell? ⟨sb, so + q * 6 + 2, none⟩ = some (.slice ma mn mc) ∧ w'.cell? ⟨sb, so + q * 6 + 3, none⟩ = some (.int .i64 s.n) ∧ w'.cell? ⟨sb, so + q * 6 + 4, none⟩ = some (.int .i64 s.a) ∧ w'.cell? ⟨sb, so + q * 6 + 5, none⟩ = some (.int .i64 s.t))
            (first
            | (refine HSW.out _ ?_; repeat (first | exact HC4.out | exact Chg.refl _ _ | refine Chg.drw ?_ | refine chg_al ?_ _ | refine chg_new ?_ (by first | exact Nat.le_refl _ | exact HC4.out.size)))
            | go_keep)
            (first
            | (go_at_call 24
               refine (HPL.out wr.drew (below_drew (Below.refl _ _))).mono ?_
               rintro e w4 ⟨K', v', rv', rfl, hp⟩
               obtain ⟨a', c', rfl, _⟩ := fl_form hp.sit.ref
               have HC4 : Hid (Chg wr w4 (fun j => K j ∨ j = g8 + 1 ∨ rv.ownBlock = some j)) := ⟨hp.chg.os, hp.chg.tape, hp.chg.output, hp.chg.size, hp.chg.block⟩
               have HO4 : Hid (OnI At w w4 K' lnN (.pointer none) (.slice a' lnN.fl.length c') (g8 + 1) rv' g8 #[.slice none 0 0, .int .i64 0, .bool true]) := (HI.out.at sv (below_drew (Below.refl _ _))).step sv hp
               clear hp)
            | (go_at_call 24
               refine (HPL.out (wr.drew.alloc (.cells #[.slice none 0 0, .int .i64 0, .bool false] 56)) ((below_drew (Below.refl _ _)).alloc (Nat.le_refl _) _)).mono ?_
               rintro e w4 ⟨K', v', rv', rfl, hp⟩
               obtain ⟨a', c', rfl, _⟩ := fl_form hp.sit.ref
               have hbl : Below wr.heap.size wr (wr.drew.alloc (.cells #[.slice none 0 0, .int .i64 0, .bool false] 56)) := (below_drew (Below.refl _ _)).alloc (Nat.le_refl _) _
               have hA4 : w4.heap[wr.heap.size]? = some (.cells #[.slice none 0 0, .int .i64 0, .bool false] 56 (0, 0)) := by
                 rw [hp.chg.block wr.heap.size (by rw [World.size_alloc]; exact Nat.lt_succ_self _) (HI.out.out sv _ (.inr (.inr (Nat.le_refl _))))]
                 exact heap_alloc_new wr.drew _
               have HA4 : Hid (w4.heap[wr.heap.size]? = some (.cells #[.slice none 0 0, .int .i64 0, .bool false] 56 (0, 0))) := hA4
               obtain ⟨q0, q1, q2⟩ := cells_3 hA4
               have f4 := free_of hA4
               have HC4 : Hid (Chg wr w4 (fun j => K j ∨ j = g8 + 1 ∨ rv.ownBlock = some j)) := (Chg.of_below hbl _).trans hp.chg
               have HO4 : Hid (OnI At w w4 K' lnN (.pointer none) (.slice a' lnN.fl.length c') (g8 + 1) rv' g8 #[.slice none 0 0, .int .i64 0, .bool true]) := (HI.out.at sv hbl).step sv hp
               have HN4 : Hid (¬ K' wr.heap.size) := fun hk => (hp.new _ hk).elim (fun hk => HI.out.out sv _ (.inr (.inr (Nat.le_refl _))) (.inl hk)) (fun hh => by rw [World.size_alloc] at hh; have : wr.drew.heap.size = wr.heap.size := rfl; omega)
               clear hp hA4 hbl))
          all_goals
            go_wp2_with fail
            go_meet
          case rel => exact ⟨K', rv', rfl, (HO4.out.at sv ((Below.refl _ _).alloc (Nat.le_refl _) _)).nilv⟩
          case rel => exact ⟨K', rv', rfl, (OnI.other sv HO4.out HA4.out (by have := lt_of_blk HI.out.box; omega) HN4.out HI.out.below.size).nilv⟩
        case rest =>
          obtain ⟨K', rv', rfl, HJ⟩ := hcut
          clear c0 c1 c2 s0 s1 s2 s3 s4 s5
          go_wp2_with fail
          go_roundw
          case rel => exact ⟨q + 1, K', rv', by go_num, by omega, by omega, HJ⟩
          case measure => simp [intOf]; omega
      · have hqj : ¬ (q : Int) < 120 := by omega
        go_wp2_with fail
        refine Calls.mono (HKN.out _) ?_
        rintro e wz ⟨rfl, hbz⟩
        have HZ : Hid (Below w.heap.size w wz) := trans2 HI.out.below hbz
        clear hbz
        go_wp2_with fail
        go_ret
        exact ⟨rfl, HZ.out⟩
    · obtain rfl : q = sn := by omega
      have hge : ¬ (q : Int) < (q : Int) := by omega
      go_wp2_with fail
      refine Calls.mono (HKN.out _) ?_
      rintro e wz ⟨rfl, hbz⟩
      have HZ : Hid (Below w.heap.size w wz) := trans2 HI.out.below hbz
      clear hbz
      go_wp2_with fail
      go_ret
      exact ⟨rfl, HZ.out⟩
end Go.Proofs.Ytfcobhgjkibdgaa
