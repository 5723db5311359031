/-
  heraldlaw16: only.
-/
import Derived.Test.YtfcobhgjkibdgaaLKnown
import Derived.Test.YtfcobhgjkibdgaaLScript
namespace Go.Proofs.Ytfcobhgjkibdgaa
open Go.RowKit
set_option linter.unusedVariables false
set_option linter.unusedSimpArgs false

theorem plays_any {At : World → (Nat → Prop) → LnT → Value → Prop} (sv : Lines At) (w : World) (K : Nat → Prop) (L : LnT) (p v : Value) (D : Nat) (rv : Value) (s : StL) (mv : Value) (P : Nat → Prop) (h : Sit At w K L p v D rv) (hg : L.gv + 300 ≤ MaxG) (hms : MssAt w P mv s.ms) (hw : (Lit.int .i64 s.n).wf = true) :
    Calls Try.prog 24 #[p, lnV v L.gv L.no, s.val mv, .pointer (some ⟨D, 0, none⟩)] w fun e w' => ∃ K' v' rv', e = .returned (.tuple #[lnV v' (L.step s).gv (L.step s).no, .bool true]) ∧ PlE At w K p D rv (L.step s) w' K' v' rv' := by
  obtain ⟨ma, mc, rfl, _⟩ := RowAt.form hms
  obtain ⟨kind, on, ms, n, a, t⟩ := s
  by_cases h1 : kind = 1
  · subst h1
    have e : LnT.step L ⟨1, on, ms, n, a, t⟩ = (L.send (shL ms)).1 := rfl
    rw [e]
    exact plays_send sv w K L p v D rv on n a t ms ma _ mc h hg P hms
  by_cases h2 : kind = 2
  · subst h2
    have e : LnT.step L ⟨2, on, ms, n, a, t⟩ = (L.tak n).1 := rfl
    rw [e]
    exact plays_take sv w K L p v D rv on n a t ms ma _ mc h hg hw
  by_cases h3 : kind = 3
  · subst h3
    have e : LnT.step L ⟨3, on, ms, n, a, t⟩ = (L.dbl n).1 := rfl
    rw [e]
    exact plays_double sv w K L p v D rv on n a t ms ma _ mc h hg hw
  by_cases h4 : kind = 4
  · subst h4
    have e : LnT.step L ⟨4, on, ms, n, a, t⟩ = (L.spl n a t).1 := rfl
    rw [e]
    exact plays_spoil sv w K L p v D rv on n a t ms ma _ mc h hg hw
  have e : LnT.step L ⟨kind, on, ms, n, a, t⟩ = L := by
    unfold LnT.step
    rw [if_neg h1, if_neg h2, if_neg h3, if_neg h4]
  rw [e]
  by_cases h5 : kind = 5
  · subst h5
    exact plays_look sv w K L p v D rv on n a t ms ma _ mc h hg hw
  by_cases h6 : kind = 6
  · subst h6
    exact plays_numbers sv w K L p v D rv on n a t ms ma _ mc h hg
  exact plays_else sv w K L p v D rv kind on n a t ms ma _ mc h hg (by omega)
/-- A script between two steps: cs, the box of the document's line. -/
structure OnI (At : World → (Nat → Prop) → LnT → Value → Prop) (w wr : World) (K : Nat → Prop) (L : LnT) (p v : Value) (D : Nat) (rv : Value) (b : Nat) (cs : Array Value) : Prop where
  sit : Sit At wr K L p v D rv
  box : wr.heap[b]? = some (.cells cs 56 (0, 0))
  nb : ¬ K b
  lowK : ∀ j, K j → w.heap.size ≤ j
  lowD : w.heap.size ≤ D
  lowR : ∀ j, rv.ownBlock = some j → w.heap.size ≤ j
  lowB : w.heap.size ≤ b
  below : Below w.heap.size w wr
theorem OnI.at {At : World → (Nat → Prop) → LnT → Value → Prop} (sv : Lines At) {w wr w' : World} {K : Nat → Prop} {L : LnT} {p v : Value} {D : Nat} {rv : Value} {b : Nat} {cs : Array Value} (h : OnI At w wr K L p v D rv b cs) (hb : Below wr.heap.size wr w') : OnI At w w' K L p v D rv b cs :=
  ⟨h.sit.below sv hb, kept_block hb h.box, h.nb, h.lowK, h.lowD, h.lowR, h.lowB, trans2 h.below hb⟩
/-- The blocks that a step turns are not the box, nor old ones, nor any that were not there. -/
theorem OnI.out {At : World → (Nat → Prop) → LnT → Value → Prop} (sv : Lines At) {w wr : World} {K : Nat → Prop} {L : LnT} {p v : Value} {D : Nat} {rv : Value} {b : Nat} {cs : Array Value} (h : OnI At w wr K L p v D rv b cs) (j : Nat) (hj : j = b ∨ j < w.heap.size ∨ wr.heap.size ≤ j) : ¬ (K j ∨ j = D ∨ rv.ownBlock = some j) := by
  obtain ⟨n, xs, hr⟩ := h.sit.row
  rintro (hk | hd | hv)
  · rcases hj with e | e | e
    · exact h.nb (by rw [← e]; exact hk)
    · have := h.lowK j hk; omega
    · have := sv.lt h.sit.at' j hk; omega
  · subst hd
    rcases hj with e | e | e
    · have h1 := h.sit.desk
      rw [e, h.box] at h1
      simp at h1
    · have := h.lowD; omega
    · have := lt_of_blk h.sit.desk; omega
  · rcases hj with e | e | e
    · obtain ⟨cur, hc⟩ := row_kind hr j hv
      rw [e, h.box] at hc
      simp at hc
    · have := h.lowR j hv; omega
    · have := (row_block hr j hv).2; omega
theorem OnI.step {At : World → (Nat → Prop) → LnT → Value → Prop} (sv : Lines At) {w wr w4 : World} {K K' : Nat → Prop} {L L' : LnT} {p v v' : Value} {D : Nat} {rv rv' : Value} {b : Nat} {cs : Array Value} (h : OnI At w wr K L p v D rv b cs) (he : PlE At wr K p D rv L' w4 K' v' rv') : OnI At w w4 K' L' p v' D rv' b cs := by
  have hs := he.chg.size
  have hb := lt_of_blk h.box
  refine ⟨he.sit, ?_, fun hk => (he.new b hk).elim h.nb (fun hh => by omega), fun j hj => (he.new j hj).elim (h.lowK j) (fun hh => Nat.le_trans h.below.size hh), h.lowD, fun j hj => (he.newR j hj).elim (h.lowR j) (fun hh => Nat.le_trans h.below.size hh), h.lowB, ?_⟩
  · rw [he.chg.block b hb (h.out sv b (.inl rfl))]
    exact h.box
  · exact ⟨he.chg.os.trans h.below.os, he.chg.tape.trans h.below.tape, he.chg.output.trans h.below.output, Nat.le_trans h.below.size hs, fun k hk => (he.chg.block k (Nat.lt_of_lt_of_le hk h.below.size) (h.out sv k (.inr (.inl hk)))).trans (h.below.block k hk)⟩
theorem OnI.store {At : World → (Nat → Prop) → LnT → Value → Prop} (sv : Lines At) {w wr : World} {K : Nat → Prop} {L : LnT} {p v : Value} {D : Nat} {rv : Value} {b : Nat} {x0 x1 x2 y0 y1 y2 : Value} (h : OnI At w wr K L p v D rv b #[x0, x1, x2]) : OnI At w (put_3 wr b y0 y1 y2) K L p v D rv b #[y0, y1, y2] :=
  ⟨h.sit.box sv (((But.refl _ _).set).set).set (chg_put3 wr b _ _ _) (fun c => ⟨by rw [h.box]; simp, by rw [h.box]; simp, by rw [h.box]; simp⟩) h.nb, fill_3 h.box, h.nb, h.lowK, h.lowD, h.lowR, h.lowB, fillB_3 h.below h.lowB⟩
/-- Another box of the document's kind is filled. -/
theorem OnI.other {At : World → (Nat → Prop) → LnT → Value → Prop} (sv : Lines At) {w wr : World} {K : Nat → Prop} {L : LnT} {p v : Value} {D : Nat} {rv : Value} {b g : Nat} {cs : Array Value} {x0 x1 x2 y0 y1 y2 : Value} (h : OnI At w wr K L p v D rv b cs) (hg : wr.heap[g]? = some (.cells #[x0, x1, x2] 56 (0, 0))) (hb : b ≠ g) (hk : ¬ K g) (hl : w.heap.size ≤ g) : OnI At w (put_3 wr g y0 y1 y2) K L p v D rv b cs :=
  ⟨h.sit.box sv (((But.refl _ _).set).set).set (chg_put3 wr g _ _ _) (fun c => ⟨by rw [hg]; simp, by rw [hg]; simp, by rw [hg]; simp⟩) hk, fillO_3 h.box hb, h.nb, h.lowK, h.lowD, h.lowR, h.lowB, fillB_3 h.below hl⟩
theorem chg_new {w w' : World} {S : Nat → Prop} {g i : Nat} {v : Value} (h : Chg w w' S) (hg : w.heap.size ≤ g) : Chg w (w'.setCell ⟨g, i, none⟩ v) S := chg_ext h (Chg.set w' ⟨g, i, none⟩ v) (fun j e => .inr (by have e : j = g := e; omega))
theorem chg_al {w w' : World} {S : Nat → Prop} (h : Chg w w' S) (o : Obj) : Chg w (w'.alloc o) S := h.trans (Chg.alloc w' o S)
/-- What is left behind a script. -/
def runL (L : LnT) (l : List StL) : LnT := l.foldl LnT.step L
theorem runL_snoc (L : LnT) (l : List StL) (s : StL) : runL L (l ++ [s]) = (runL L l).step s := by unfold runL; rw [List.foldl_append]; rfl
theorem runL_gv (L : LnT) : ∀ (l : List StL), (runL L l).gv ≤ L.gv + 300 * l.length := by
  intro l
  induction l generalizing L with
  | nil => exact Nat.le_refl _
  | cons s l ih =>
    have h1 := ih (L.step s)
    have h2 := step_gv L s
    show (runL (L.step s) l).gv ≤ _
    rw [List.length_cons]
    omega
set_option maxHeartbeats 6400000 in
set_option maxRecDepth 100000 in
theorem only_any {At : World → (Nat → Prop) → LnT → Value → Prop} (sv : Lines At) (l : List StL) (v : Value) (lo hi : Int) (w : World) (hl : StsAt w (fun b => b < w.heap.size) v l) (hwf : ∀ x ∈ l, (Lit.int .i64 x.n).wf = true) :
    Calls Try.prog 28 #[v, .int .i64 lo, .int .i64 hi] w fun e w' => e = .returned (.bool true) ∧ Below w.heap.size w w' := by
  obtain ⟨sa, sc, rfl, _⟩ := RowAt.form hl
  obtain ⟨sn, hsn⟩ : ∃ z, l.length = z := ⟨_, rfl⟩
  rw [hsn] at hl ⊢
  have HSN : Hid (l.length = sn) := hsn
  have HL : Hid (StsAt w (fun b => b < w.heap.size) (.slice sa sn sc) l) := hl
  have HKN : Hid (∀ w', _) := fun w' => known_any sv w'
  have HWF : Hid (∀ x ∈ l, (Lit.int .i64 x.n).wf = true) := hwf
  clear hsn hl hwf
  go_enter Try.func28, Try.ntmps28
  go_wp2_with fail
  refine Calls.mono (sv.new w) ?_
  rintro e w1 ⟨b, K1, rfl, h1, hb1, hn1⟩
  have H1 : Hid (At w1 K1 ln0 (.pointer (some ⟨b, 0, none⟩)) ∧ Below w.heap.size w w1 ∧ ∀ j, K1 j → w.heap.size ≤ j) := ⟨h1, hb1, hn1⟩
  clear h1 hb1 hn1
  go_wp2_with fail
  refine Calls.mono (refNew_any w1) ?_
  rintro e w2 ⟨rfl, hb2⟩
  obtain ⟨hA, hB, hbel⟩ := pair_blocks (w := w2) (t := 56) (cs := #[.slice none 0 0, .int .i64 0, .bool false]) (t' := 59) (cs' := #[.slice none 0 0])
  obtain ⟨W3, hW3⟩ : ∃ z, ((w2.alloc (.cells #[.slice none 0 0, .int .i64 0, .bool false] 56)).alloc (.cells #[.slice none 0 0] 59)) = z := ⟨_, rfl⟩
  rw [hW3] at hA hB hbel
  obtain ⟨g8, hg8⟩ : ∃ z, w2.heap.size = z := ⟨_, rfl⟩
  rw [hg8] at hA hB
  have HI0 : Hid (OnI At w W3 K1 ln0 (.pointer (some ⟨b, 0, none⟩)) (.slice none 0 0) (g8 + 1) (.slice none 0 0) g8 #[.slice none 0 0, .int .i64 0, .bool false]) := by
    have hs := H1.out.2.1.size
    have hs2 := hb2.size
    have hlt : ∀ j, K1 j → j < w1.heap.size := sv.lt H1.out.1
    refine ⟨⟨sv.keep H1.out.1 (Kp.of_below (trans2 hb2 hbel) _), ok0, owns_nil _ _ _ _, hB, ⟨0, [], owns_nil _ _ _ _⟩, fun hk => by have := hlt _ hk; omega, (fun j hj => by cases hj)⟩, hA, fun hk => by have := hlt _ hk; omega, H1.out.2.2, by omega, (fun j hj => by cases hj), by omega, trans2 H1.out.2.1 (trans2 hb2 hbel)⟩
  have HW3 : Hid (_ = W3) := hW3
  have HG8 : Hid (w2.heap.size = g8) := hg8
  clear hA hB hbel hW3 hg8 hb2
  go_upto_region 6 with fail
  rw [HW3.out]
  try rw [show (w2.alloc (.cells #[.slice none 0 0, .int .i64 0, .bool false] 56)).heap.size = w2.heap.size + 1 by simp]
  rw [HG8.out]
  go_wp2_with fail
  go_loopw [10, 11, 12] (fun i _ _ wr => ∃ (q : Nat) (K : Nat → Prop) (vv rv : Value), i = .int .i64 q ∧ q ≤ sn ∧ q ≤ 120 ∧ Hid (OnI At w wr K (runL ln0 (l.take q)) (.pointer (some ⟨b, 0, none⟩)) vv (g8 + 1) rv g8 #[vv, .int .i64 (runL ln0 (l.take q)).gv, .bool (runL ln0 (l.take q)).no])) (fun i _ _ _ => sn - (intOf i).toNat)
  case atStart => exact ⟨0, K1, _, _, rfl, Nat.zero_le _, Nat.zero_le _, HI0⟩
  case round =>
    obtain ⟨q, K, vv, rv, rfl, hq, hq1, HI⟩ := hrel
    by_cases hlt : q < sn
    · have hqi : (q : Int) < (sn : Int) := by omega
      by_cases h120 : q < 120
      · have hqj : (q : Int) < 120 := by omega
        obtain ⟨s, hs⟩ : ∃ s, l[q]? = some s := ⟨l[q]'(by rw [HSN.out]; exact hlt), List.getElem?_eq_getElem _⟩
        obtain ⟨sb, so, rfl, hsb, _, mv, hE⟩ := RowAt.get HL.out hs
        obtain ⟨L, hL⟩ : ∃ z, runL ln0 (l.take q) = z := ⟨_, rfl⟩
        have hgv : L.gv + 300 ≤ MaxG := by
          have h1 := runL_gv ln0 (l.take q)
          rw [hL, List.length_take, HSN.out] at h1
          have : ln0.gv = 0 := rfl
          unfold MaxG
          omega
        rw [hL] at HI
        obtain ⟨a8, c8, rfl, _⟩ := fl_form HI.out.sit.ref
        obtain ⟨n8, hn8⟩ : ∃ z, L.fl.length = z := ⟨_, rfl⟩
        rw [hn8] at HI
        obtain ⟨ma, mc, rfl, _⟩ := RowAt.form hE.ms
        obtain ⟨mn, hmn⟩ : ∃ z, s.ms.length = z := ⟨_, rfl⟩
        rw [hmn] at hE
        have HEE : Hid (stE w (fun b => b < w.heap.size) sb (so + q * 6) s (.slice ma mn mc)) := hE
        have HPL : Hid (∀ w', Below wr.heap.size wr w' → _) := fun w' hb => plays_any sv w' K L (.pointer (some ⟨b, 0, none⟩)) (.slice a8 n8 c8) (g8 + 1) rv s (.slice ma mn mc) (fun b => b < w.heap.size) (HI.out.at sv hb).sit hgv (MssAt.keep HEE.out.ms (Kp.of_below (trans2 HI.out.below hb) _)) (HWF.out s (List.mem_of_getElem? hs))
        have HN : Hid (runL ln0 (l.take (q + 1)) = L.step s) := by show _ = _; rw [take_at hs, runL_snoc, hL]
        have HSW : Hid (∀ w', Chg wr w' (fun j => K j ∨ j = g8 + 1 ∨ rv.ownBlock = some j) → w'.cell? ⟨g8, 0, none⟩ = some (.slice a8 n8 c8) ∧ w'.cell? ⟨g8, 1, none⟩ = some (.int .i64 L.gv) ∧ w'.cell? ⟨g8, 2, none⟩ = some (.bool L.no) ∧ w'.cell? ⟨sb, so + q * 6, none⟩ = some (.int .i64 s.kind) ∧ w'.cell? ⟨sb, so + q * 6 + 1, none⟩ = some (.int .i64 s.on) ∧ w'.cell? ⟨sb, so + q * 6 + 2, none⟩ = some (.slice ma mn mc) ∧ w'.cell? ⟨sb, so + q * 6 + 3, none⟩ = some (.int .i64 s.n) ∧ w'.cell? ⟨sb, so + q * 6 + 4, none⟩ = some (.int .i64 s.a) ∧ w'.cell? ⟨sb, so + q * 6 + 5, none⟩ = some (.int .i64 s.t)) := fun w' hc => by
          obtain ⟨c0, c1, c2⟩ := cells_3 HI.out.box
          have e8 := hc.block g8 (lt_of_blk HI.out.box) (HI.out.out sv g8 (.inl rfl))
          have hsw : sb < wr.heap.size := Nat.lt_of_lt_of_le hsb HI.out.below.size
          have es := hc.block sb hsw (HI.out.out sv sb (.inr (.inl hsb)))
          have k8 : ∀ {o v}, wr.cell? ⟨g8, o, none⟩ = some v → w'.cell? ⟨g8, o, none⟩ = some v := fun hv => by rw [World.cell?_of_block (w := wr) e8]; exact hv
          have ks : ∀ {o v}, w.cell? ⟨sb, o, none⟩ = some v → w'.cell? ⟨sb, o, none⟩ = some v := fun hv => by rw [World.cell?_of_block (w := wr) es, HI.out.below.cell (p := ⟨sb, _, none⟩) hsb]; exact hv
          exact ⟨k8 c0, k8 c1, k8 c2, ks HEE.out.kind, ks HEE.out.on, ks HEE.out.cu, ks HEE.out.n, ks HEE.out.a, ks HEE.out.t⟩
        obtain ⟨L2, hL2⟩ : ∃ z, L.step s = z := ⟨_, rfl⟩
        rw [hL2] at HPL HN
        obtain ⟨c0, c1, c2, s0, s1, s2, s3, s4, s5⟩ := HSW.out wr (Chg.refl _ _)
        have HSB : Hid (sb < w.heap.size) := hsb
        clear hs hL hn8 hE hmn hL2 hgv hsb
        go_upto_region 9 with fail
        go_cut [11, 12] from 19 to 60 (fun s11 s12 wc => ∃ (g11 : Nat) (K' : Nat → Prop) (a' : Option Addr) (c' : Nat) (rv' : Value), s11 = .pointer (some ⟨g11, 0, none⟩) ∧ s12 = .bool true ∧ wr.heap.size ≤ g11 ∧ Hid (wc.heap[g11]? = some (.cells #[.slice a' L2.fl.length c', .int .i64 L2.gv, .bool L2.no] 56 (0, 0))) ∧ Hid (OnI At w wc K' L2 (.pointer (some ⟨b, 0, none⟩)) (.slice a' L2.fl.length c') (g8 + 1) rv' g8 #[.slice a8 n8 c8, .int .i64 L.gv, .bool L.no]))
        case first =>
          go_region_held3 (fun w' => w'.cell? ⟨g8, 0, none⟩ = some (.slice a8 n8 c8) ∧ w'.cell? ⟨g8, 1, none⟩ = some (.int .i64 L.gv) ∧ w'.cell? ⟨g8, 2, none⟩ = some (.bool L.no) ∧ w'.cell? ⟨sb, so + q * 6, none⟩ = some (.int .i64 s.kind) ∧ w'.cell? ⟨sb, so + q * 6 + 1, none⟩ = some (.int .i64 s.on) ∧ w'.cell? ⟨sb, so + q * 6 + 2, none⟩ = some (.slice ma mn mc) ∧ w'.cell? ⟨sb, so + q * 6 + 3, none⟩ = some (.int .i64 s.n) ∧ w'.cell? ⟨sb, so + q * 6 + 4, none⟩ = some (.int .i64 s.a) ∧ w'.cell? ⟨sb, so + q * 6 + 5, none⟩ = some (.int .i64 s.t))
            (first
            | (refine HSW.out _ ?_; repeat (first | exact HC4.out | exact Chg.refl _ _ | refine Chg.drw ?_ | refine chg_al ?_ _ | refine chg_new ?_ (by first | exact Nat.le_refl _ | exact HC4.out.size)))
            | go_keep)
            (first
            | (go_at_call 24
               refine (HPL.out wr.drew (below_drew (Below.refl _ _))).mono ?_
               rintro e w4 ⟨K', v', rv', rfl, hp⟩
               obtain ⟨a', c', rfl, _⟩ := fl_form hp.sit.ref
               have HC4 : Hid (Chg wr w4 (fun j => K j ∨ j = g8 + 1 ∨ rv.ownBlock = some j)) := ⟨hp.chg.os, hp.chg.tape, hp.chg.output, hp.chg.size, hp.chg.block⟩
               have HO4 : Hid (OnI At w w4 K' L2 (.pointer (some ⟨b, 0, none⟩)) (.slice a' L2.fl.length c') (g8 + 1) rv' g8 #[.slice a8 n8 c8, .int .i64 L.gv, .bool L.no]) := (HI.out.at sv (below_drew (Below.refl _ _))).step sv hp
               clear hp)
            | (go_at_call 24
               refine (HPL.out (wr.drew.alloc (.cells #[.slice none 0 0, .int .i64 0, .bool false] 56)) ((below_drew (Below.refl _ _)).alloc (Nat.le_refl _) _)).mono ?_
               rintro e w4 ⟨K', v', rv', rfl, hp⟩
               obtain ⟨a', c', rfl, _⟩ := fl_form hp.sit.ref
               have hbl : Below wr.heap.size wr (wr.drew.alloc (.cells #[.slice none 0 0, .int .i64 0, .bool false] 56)) := (below_drew (Below.refl _ _)).alloc (Nat.le_refl _) _
               have hA4 : w4.heap[wr.heap.size]? = some (.cells #[.slice none 0 0, .int .i64 0, .bool false] 56 (0, 0)) := by
                 rw [hp.chg.block wr.heap.size (by rw [World.size_alloc]; exact Nat.lt_succ_self _) (HI.out.out sv _ (.inr (.inr (Nat.le_refl _))))]
                 exact heap_alloc_new wr.drew _
               have HA4 : Hid (w4.heap[wr.heap.size]? = some (.cells #[.slice none 0 0, .int .i64 0, .bool false] 56 (0, 0))) := hA4
               obtain ⟨q0, q1, q2⟩ := cells_3 hA4
               have f4 := free_of hA4
               have HC4 : Hid (Chg wr w4 (fun j => K j ∨ j = g8 + 1 ∨ rv.ownBlock = some j)) := (Chg.of_below hbl _).trans hp.chg
               have HO4 : Hid (OnI At w w4 K' L2 (.pointer (some ⟨b, 0, none⟩)) (.slice a' L2.fl.length c') (g8 + 1) rv' g8 #[.slice a8 n8 c8, .int .i64 L.gv, .bool L.no]) := (HI.out.at sv hbl).step sv hp
               have HN4 : Hid (¬ K' wr.heap.size) := fun hk => (hp.new _ hk).elim (fun hk => HI.out.out sv _ (.inr (.inr (Nat.le_refl _))) (.inl hk)) (fun hh => by rw [World.size_alloc] at hh; have : wr.drew.heap.size = wr.heap.size := rfl; omega)
               clear hp hA4 hbl))
          all_goals
            go_wp2_with fail
            go_meet
          case rel => exact ⟨_, K', a', c', rv', rfl, rfl, HC4.out.size, heap_alloc_new _ _, HO4.out.at sv ((Below.refl _ _).alloc (Nat.le_refl _) _)⟩
          case rel => exact ⟨_, K', a', c', rv', rfl, rfl, Nat.le_refl _, fill_3 HA4.out, OnI.other sv HO4.out HA4.out (by have := lt_of_blk HI.out.box; omega) HN4.out HI.out.below.size⟩
        case rest =>
          obtain ⟨g11, K', a', c', rv', rfl, rfl, hg11, HX, HJ⟩ := hcut
          clear c0 c1 c2 s0 s1 s2 s3 s4 s5
          obtain ⟨x0, x1, x2⟩ := cells_3 HX.out
          obtain ⟨c0, c1, c2⟩ := cells_3 HJ.out.box
          have fb := free_of HJ.out.box
          obtain ⟨W5, hW5⟩ : ∃ z, ((wc.setCell ⟨g8, 0, none⟩ (.slice a' L2.fl.length c')).setCell ⟨g8, 1, none⟩ (.int .i64 L2.gv)).setCell ⟨g8, 2, none⟩ (.bool L2.no) = z := ⟨_, rfl⟩
          have HJ5 : Hid (OnI At w W5 K' L2 (.pointer (some ⟨b, 0, none⟩)) (.slice a' L2.fl.length c') (g8 + 1) rv' g8 #[.slice a' L2.fl.length c', .int .i64 L2.gv, .bool L2.no]) := by rw [← hW5]; exact HJ.out.store sv
          have HW5 : Hid (_ = W5) := hW5
          have hk5 : W5.cell? ⟨sb, so + q * 6, none⟩ = some (.int .i64 s.kind) := by rw [HJ5.out.below.cell (p := ⟨sb, _, none⟩) HSB.out]; exact HEE.out.kind
          clear hW5 hg11
          go_upto_region 11 with fail
          rw [HW5.out]
          clear x0 x1 x2 c0 c1 c2 fb
          go_wp2_with fail
          go_roundw
          case rel => exact ⟨q + 1, K', _, rv', by go_num, by omega, by omega, by rw [HN.out]; exact HJ5⟩
          case measure => simp [intOf]; omega
      · have hqj : ¬ (q : Int) < 120 := by omega
        go_wp2_with fail
        refine Calls.mono (HKN.out _) ?_
        rintro e wz ⟨rfl, hbz⟩
        have HZ : Hid (Below w.heap.size w wz) := trans2 HI.out.below hbz
        clear hbz
        go_wp2_with fail
        go_ret
        exact ⟨rfl, HZ.out⟩
    · obtain rfl : q = sn := by omega
      have hge : ¬ (q : Int) < (q : Int) := by omega
      go_wp2_with fail
      refine Calls.mono (HKN.out _) ?_
      rintro e wz ⟨rfl, hbz⟩
      have HZ : Hid (Below w.heap.size w wz) := trans2 HI.out.below hbz
      clear hbz
      go_wp2_with fail
      go_ret
      exact ⟨rfl, HZ.out⟩
end Go.Proofs.Ytfcobhgjkibdgaa
