import Derived.Test.YtdjfeomdiljaeaaGreatDoorNtWr
import Derived.Test.YtdjfeomdiljaeaaGreatDoorNtChk
import Derived.Test.YtdjfeomdiljaeaaGreatDoorNtAns
namespace Go.Proofs.YtdjfeomdiljaeaaGreatDoor
open Go.RowKit
set_option linter.unusedVariables false
set_option linter.unusedSimpArgs false

/-- A number's bytes. -/
def nmL (n : Int) : List Int := numL n.toNat
def nmsL (l : List Int) : List Int := l.flatMap nmL
abbrev inN (n : Int) : Prop := 0 ≤ n ∧ n ≤ 2147483647
theorem wr_num (bw : Nat) (v : Value) (xs : List Int) (n : Int) (w : World) (h : WrAt 67 w bw v xs) (hv : inN n) (hl : xs.length + (nmL n).length ≤ 1000000) :
    Calls Tryz.prog 58 #[.pointer (some ⟨bw, 0, none⟩), .int .i64 n] w (WrEnd 67 bw v xs (nmL n) w) := by
  obtain ⟨k, rfl⟩ := Int.eq_ofNat_of_zero_le hv.1
  have := wr_number bw v xs k w h (by have := hv.2; omega) (by omega)
  unfold nmL
  rw [Int.toNat_natCast]
  exact this
theorem wr_txt (bw : Nat) (v : Value) (xs : List Int) (s : ByteArray) (w : World) (h : WrAt 67 w bw v xs) (hv : s.size ≤ 262144) (hl : xs.length + (textL s).length ≤ 1000000) :
    Calls Tryz.prog 107 #[.pointer (some ⟨bw, 0, none⟩), .string s] w (WrEnd 67 bw v xs (textL s) w) := wr_text bw v xs s w h hv (by omega)
/-- What lay ahead of the writer lies as it lay. -/
structure Bk (w0 w : World) (bw : Nat) : Prop where
  le : w0.heap.size ≤ bw
  low : Below w0.heap.size w0 w
theorem Bk.step {w0 w w' : World} {bw : Nat} (h : Bk w0 w bw) (hb : Below bw w w') : Bk w0 w' bw := ⟨h.le, h.low.trans (hb.mono h.le)⟩
theorem Bk.ext {w0 w w' : World} {bw : Nat} (h : Bk w0 w bw) (hb : Below w.heap.size w w') : Bk w0 w' bw := ⟨h.le, h.low.trans (hb.mono h.low.size)⟩
theorem RowC.bk {w0 w : World} {bw k : Nat} {a : Option Addr} {css : List (List Value)} (h : RowC w0 a k css) (hb : Bk w0 w bw) : RowC w a k css := h.below hb.low
/-- How far a walk is that writes: zi are written, the block B (its parameter's) lies as it lay. -/
structure WrS (t : TypeId) (w : World) (bw : Nat) (v : Value) (xs : List Int) (B : Nat) (o : Obj) (wi : World) (vi : Value) (zi : List Int) : Prop where
  at' : WrAt t wi bw vi (xs ++ zi)
  low : Below bw w wi
  wf : WrF w wi bw v vi
  box : wi.heap[B]? = some o
  own : vi.ownBlock ≠ some B
  ne : B ≠ bw
theorem WrAt.own_lt {t : TypeId} {w : World} {bw : Nat} {v : Value} {xs : List Int} (h : WrAt t w bw v xs) {k : Nat} (hk : v.ownBlock = some k) : k < w.heap.size := (h.row.lt k hk).2
theorem WrAt.own_ne {t : TypeId} {w : World} {bw : Nat} {v : Value} {xs : List Int} (h : WrAt t w bw v xs) {B : Nat} (hk : w.heap.size ≤ B) : v.ownBlock ≠ some B := fun e => by have := h.own_lt e; omega
theorem WrS.start {t : TypeId} {w : World} {bw : Nat} {v : Value} {xs : List Int} (h : WrAt t w bw v xs) (o : Obj) {w1 : World} (hw1 : w.alloc o = w1) (hh : w1.heap[w.heap.size]? = some o) : WrS t w bw v xs w.heap.size o w1 v [] := by
  have hb : Below w.heap.size w w1 := by rw [← hw1]; exact (Below.refl _ _).alloc (Nat.le_refl _) _
  exact ⟨by rw [List.append_nil]; exact h.below hb, hb.mono (Nat.le_of_lt h.lt), WrF.of_below hb, hh, h.own_ne (Nat.le_refl _), by have := h.lt; omega⟩
theorem WrS.ext {t : TypeId} {w : World} {bw : Nat} {v : Value} {xs : List Int} {B : Nat} {o : Obj} {wi : World} {vi : Value} {zi : List Int} (h : WrS t w bw v xs B o wi vi zi) {w1 : World} (hb : Below wi.heap.size wi w1) : WrS t w bw v xs B o w1 vi zi :=
  ⟨h.at'.below hb, h.low.trans (hb.mono (Nat.le_of_lt h.at'.lt)), h.wf.trans (WrF.of_below hb), kept_block hb h.box, h.own, h.ne⟩
theorem WrS.step {t : TypeId} {w : World} {bw : Nat} {v : Value} {xs : List Int} {B : Nat} {o : Obj} {wi : World} {vi : Value} {zi z : List Int} (h : WrS t w bw v xs B o wi vi zi) {e : Ending} {w' : World} (hE : WrEnd t bw vi (xs ++ zi) z wi e w') :
    ∃ v', e = .returned (.tuple #[]) ∧ WrS t w bw v xs B o w' v' (zi ++ z) := by
  obtain ⟨v', he, ha, hb, hf⟩ := hE
  have hlt := lt_of_blk h.box
  refine ⟨v', he, by rw [← List.append_assoc]; exact ha, h.low.trans hb, h.wf.trans hf, ?_, fun e => ?_, h.ne⟩
  · rw [hf.chg.block B hlt (fun e => e.elim h.ne h.own)]
    exact h.box
  · rcases hf.own B e with e | e
    · exact h.own e
    · omega
theorem WrS.done {t : TypeId} {w : World} {bw : Nat} {v : Value} {xs : List Int} {B : Nat} {o : Obj} {wi : World} {vi : Value} {zi z : List Int} (h : WrS t w bw v xs B o wi vi zi) (hz : zi = z) : WrEnd t bw v xs z w (.returned (.tuple #[])) wi := by
  subst hz
  exact ⟨vi, rfl, h.at', h.low, h.wf⟩
theorem RowC.chg {w w' : World} {a : Option Addr} {k : Nat} {css : List (List Value)} {S : Nat → Prop} (h : RowC w a k css) (hc : Chg w w' S) (hS : ∀ b o, a = some ⟨b, o, none⟩ → ¬ S b) : RowC w' a k css := by
  refine ⟨h.1, ?_⟩
  rcases h.2 with h | ⟨b, o, e, hl, hg⟩
  · exact .inl h
  · refine .inr ⟨b, o, e, Nat.lt_of_lt_of_le hl hc.size, fun j t cs v hx hv => ?_⟩
    rw [show w'.cell? ⟨b, o + (j * k + t), none⟩ = w.cell? ⟨b, o + (j * k + t), none⟩ by unfold World.cell?; rw [hc.block b hl (hS b o e)]]
    exact hg j t cs v hx hv
theorem flat_take {E : Type} {f : E → List Int} {L : List E} {q : Nat} {x : E} (h : L[q]? = some x) : (L.take (q + 1)).flatMap f = (L.take q).flatMap f ++ f x := by
  rw [List.take_add_one, h, List.flatMap_append]
  simp
theorem flat_le {E : Type} {f : E → List Int} {L : List E} {q : Nat} {x : E} (h : L[q]? = some x) : ((L.take q).flatMap f).length + (f x).length ≤ (L.flatMap f).length := by
  have h1 := congrArg List.length (flat_take (f := f) h)
  rw [List.length_append] at h1
  have h2 : L.flatMap f = (L.take (q + 1)).flatMap f ++ (L.drop (q + 1)).flatMap f := by rw [← List.flatMap_append, List.take_append_drop]
  rw [h2, List.length_append]
  omega
set_option maxHeartbeats 1600000 in
set_option maxRecDepth 100000 in
theorem wr_nums (bw : Nat) (v : Value) (xs : List Int) (a : Option Addr) (c : Nat) (L : List Int) (w : World) (h : WrAt 67 w bw v xs) (hL : RowC w a 1 (L.map intC)) (hd : ∀ b o, a = some ⟨b, o, none⟩ → b ≠ bw ∧ v.ownBlock ≠ some b) (hv : ∀ n ∈ L, inN n) (hl : xs.length + (nmsL L).length ≤ 1000000) :
    Calls Tryz.prog 71 #[.pointer (some ⟨bw, 0, none⟩), .slice a L.length c] w (WrEnd 67 bw v xs (nmsL L) w) := by
  have HL : Hid (RowC w a 1 (L.map intC)) := hL
  have HW : Hid (WrAt 67 w bw v xs) := h
  have HD : Hid (∀ b o, a = some ⟨b, o, none⟩ → b ≠ bw ∧ v.ownBlock ≠ some b) := hd
  have HV : Hid (∀ n ∈ L, inN n) := hv
  obtain ⟨T, hT⟩ : ∃ T, nmsL L = T := ⟨_, rfl⟩
  have HT : Hid (nmsL L = T) := hT
  obtain ⟨m, hm⟩ : ∃ m, L.length = m := ⟨_, rfl⟩
  have HM : Hid (L.length = m) := hm
  have hlen := hL.len
  rw [hm] at hlen
  rw [hT] at hl ⊢
  rw [hm]
  clear hm hL h hd hv hT
  go_enter Tryz.func71, Tryz.ntmps71
  go_wp2_with fail
  go_loopw [8] (fun iv wr => ∃ (q : Nat) (vq : Value), iv = .int .i64 q ∧ q ≤ m ∧ Hid (WrAt 67 wr bw vq (xs ++ nmsL (L.take q))) ∧ Hid (Below bw w wr) ∧ Hid (WrF w wr bw v vq)) (fun iv _ => m - (intOf iv).toNat)
  case atStart => exact ⟨0, v, rfl, Nat.zero_le _, by show WrAt _ _ _ _ _; rw [List.take_zero]; unfold nmsL; rw [List.flatMap_nil, List.append_nil]; exact HW.out, Below.refl _ _, WrF.of_below (Below.refl _ _)⟩
  case round =>
    obtain ⟨q, vq, rfl, hqm, HAq, HBq, HFq⟩ := hrel
    by_cases hlt : q < m
    · have hlt' : (q : Int) < (m : Int) := by omega
      obtain ⟨x, hx⟩ : ∃ x, L[q]? = some x := ⟨L[q]'(by rw [HM.out]; exact hlt), List.getElem?_eq_getElem _⟩
      have HX : Hid (L[q]? = some x) := hx
      obtain ⟨b, o, rfl, n0⟩ := (HL.out.chg HFq.out.chg (fun b o hb e => e.elim (HD.out b o hb).1 (HD.out b o hb).2)).at1 (map_at hx)
      have hfl := flat_le (f := nmL) hx
      clear hx
      have HC : Hid _ := wr_num bw vq (xs ++ nmsL (L.take q)) x wr HAq.out (HV.out x (List.mem_of_getElem? HX.out)) (by rw [List.length_append]; have := congrArg List.length HT.out; unfold nmsL at this ⊢; omega)
      clear hfl
      go_wp2_with (first
        | (go_at_call 58; refine Calls.mono HC.out ?_; rintro e w1 ⟨v1, rfl, ha, hb, hf⟩)
        | fail)
      have HA1 : Hid (WrAt 67 w1 bw v1 (xs ++ nmsL (L.take (q + 1)))) := by
        show WrAt _ _ _ _ _
        unfold nmsL
        rw [flat_take HX.out, ← List.append_assoc]
        exact ha
      have HB1 : Hid (Below bw w w1) := HBq.out.trans hb
      have HF1 : Hid (WrF w w1 bw v v1) := HFq.out.trans hf
      clear ha hb hf
      go_wp2_with fail
      go_roundw
      case rel => exact ⟨q + 1, v1, by go_num, by omega, HA1, HB1, HF1⟩
      case measure => simp [intOf]; omega
    · have hlt' : ¬ (q : Int) < (m : Int) := by omega
      go_wp2_with fail
      refine bodyPost_end (results_none rfl _ _ _) rfl ⟨vq, rfl, ?_, HBq.out, HFq.out⟩
      have := HAq.out
      rw [List.take_of_length_le (by have := HM.out; omega), HT.out] at this
      exact this
/-- How far a walk is that writes: zi are written. -/
structure WrQ (t : TypeId) (w : World) (bw : Nat) (v : Value) (xs : List Int) (wi : World) (vi : Value) (zi : List Int) : Prop where
  at' : WrAt t wi bw vi (xs ++ zi)
  low : Below bw w wi
  wf : WrF w wi bw v vi
theorem WrQ.start {t : TypeId} {w : World} {bw : Nat} {v : Value} {xs : List Int} (h : WrAt t w bw v xs) : WrQ t w bw v xs w v [] := ⟨by rw [List.append_nil]; exact h, Below.refl _ _, WrF.of_below (Below.refl _ _)⟩
theorem WrQ.ext {t : TypeId} {w : World} {bw : Nat} {v : Value} {xs : List Int} {wi : World} {vi : Value} {zi : List Int} (h : WrQ t w bw v xs wi vi zi) {w1 : World} (hb : Below wi.heap.size wi w1) : WrQ t w bw v xs w1 vi zi :=
  ⟨h.at'.below hb, h.low.trans (hb.mono (Nat.le_of_lt h.at'.lt)), h.wf.trans (WrF.of_below hb)⟩
theorem WrQ.step {t : TypeId} {w : World} {bw : Nat} {v : Value} {xs : List Int} {wi : World} {vi : Value} {zi z : List Int} (h : WrQ t w bw v xs wi vi zi) {e : Ending} {w' : World} (hE : WrEnd t bw vi (xs ++ zi) z wi e w') :
    ∃ v', e = .returned (.tuple #[]) ∧ WrQ t w bw v xs w' v' (zi ++ z) := by
  obtain ⟨v', he, ha, hb, hf⟩ := hE
  exact ⟨v', he, by rw [← List.append_assoc]; exact ha, h.low.trans hb, h.wf.trans hf⟩
theorem WrQ.done {t : TypeId} {w : World} {bw : Nat} {v : Value} {xs : List Int} {wi : World} {vi : Value} {zi z : List Int} (h : WrQ t w bw v xs wi vi zi) (hz : zi = z) : WrEnd t bw v xs z w (.returned (.tuple #[])) wi := by
  subst hz
  exact ⟨vi, rfl, h.at', h.low, h.wf⟩
/-- A list's bytes. -/
def lsL {E : Type} (f : E → List Int) (L : List E) : List Int := nmL L.length ++ L.flatMap f
def vrL (v : Int) : List Int := if v = -1 then nmL 0 else nmL 1 ++ nmL v
set_option maxHeartbeats 1600000 in
set_option maxRecDepth 100000 in
theorem wr_version (bw : Nat) (v : Value) (xs : List Int) (n : Int) (w : World) (h : WrAt 67 w bw v xs) (hv : n = -1 ∨ inN n) (hl : xs.length + (vrL n).length ≤ 1000000) :
    Calls Tryz.prog 108 #[.pointer (some ⟨bw, 0, none⟩), .int .i64 n] w (WrEnd 67 bw v xs (vrL n) w) := by
  have HW : Hid (WrAt 67 w bw v xs) := h
  unfold vrL at hl ⊢
  clear h
  by_cases hn : n = -1
  · subst hn
    rw [if_pos rfl] at hl ⊢
    go_enter Tryz.func108, Tryz.ntmps108
    go_wp2_with (first
      | (go_at_call 58; refine Calls.mono (wr_num bw v xs 0 _ HW.out (by decide) hl) ?_; rintro e w1 ⟨v1, rfl, ha, hb, hf⟩)
      | fail)
    exact bodyPost_end (results_none rfl _ _ _) rfl ⟨v1, rfl, ha, hb, hf⟩
  · rw [if_neg hn] at hl ⊢
    have hn' : (n == -1) = false := by simpa using hn
    have hvv : inN n := hv.resolve_left hn
    have e2 : nmL 1 ++ nmL n = nmsL [1, n] := by unfold nmsL; simp
    rw [e2] at hl ⊢
    have HC : Hid (Calls Tryz.prog 71 #[.pointer (some ⟨bw, 0, none⟩), .slice (some ⟨w.heap.size, 0, none⟩) 2 2] (w.alloc (.cells #[.int .i64 1, .int .i64 n] 3)) (WrEnd 67 bw v xs (nmsL [1, n]) (w.alloc (.cells #[.int .i64 1, .int .i64 n] 3)))) :=
      wr_nums bw v xs _ 2 [1, n] _ (HW.out.below (ext_alloc (Below.refl _ _) _)) (rowC_new _ [1, n] (show 2 ≤ maxLen by decide)) (fun b o hb => by cases hb; exact ⟨by have := HW.out.lt; omega, HW.out.own_ne (Nat.le_refl _)⟩) (by intro x hx; simp at hx; rcases hx with rfl | rfl; exact ⟨by decide, by decide⟩; exact hvv) hl
    clear hl e2
    go_enter Tryz.func108, Tryz.ntmps108
    go_wp2_with (first
      | (go_at_call 71; refine Calls.mono HC.out ?_; intro e w1 hE; obtain ⟨v1, rfl, hs⟩ := ((WrQ.start HW.out).ext (ext_alloc (Below.refl _ _) _)).step (by rw [List.append_nil]; exact hE))
      | fail)
    exact bodyPost_end (results_none rfl _ _ _) rfl (hs.done rfl)
def opL (e : OpN) : List Int := nmL e.K ++ (textL e.p ++ (textL e.d ++ (vrL e.v ++ nmL e.fl)))
theorem OpN.lens {e : OpN} (h : e.Ok) : inN e.K ∧ inN e.fl ∧ (e.v = -1 ∨ inN e.v) ∧ e.p.size ≤ 256 ∧ e.d.size ≤ 256 := by
  obtain ⟨K, p, d, v, fl⟩ := e
  obtain ⟨h1, h2, h3, h4⟩ := h
  have ha := h1 K (by simp)
  have hb := h1 fl (by simp)
  simp only at *
  refine ⟨ha, hb, by omega, by omega, by omega⟩
set_option maxHeartbeats 3200000 in
set_option maxRecDepth 100000 in
theorem w_op_core (bw : Nat) (v : Value) (xs : List Int) (K : Int) (p d : ByteArray) (vr fl : Int) (w : World) (h : WrAt 67 w bw v xs) (hK : inN K) (hfl : inN fl) (hvr : vr = -1 ∨ inN vr) (hp : p.size ≤ 256) (hd : d.size ≤ 256) (hl : xs.length + (nmL K ++ (textL p ++ (textL d ++ (vrL vr ++ nmL fl)))).length ≤ 1000000) :
    Calls Tryz.prog 73 #[.pointer (some ⟨bw, 0, none⟩), .agg #[.int .i64 K, .string p, .string d, .int .i64 vr, .int .i64 fl]] w (WrEnd 67 bw v xs (nmL K ++ (textL p ++ (textL d ++ (vrL vr ++ nmL fl)))) w) := by
  obtain ⟨w0, hw0⟩ : ∃ w0, w.alloc (.cells #[.int .i64 K, .string p, .string d, .int .i64 vr, .int .i64 fl] 60) = w0 := ⟨_, rfl⟩
  have HS0 : Hid (WrS 67 w bw v xs w.heap.size (.cells #[.int .i64 K, .string p, .string d, .int .i64 vr, .int .i64 fl] 60 (0, 0)) w0 v []) := WrS.start h _ hw0 (by rw [← hw0]; exact heap_alloc_new _ _)
  have HW : Hid (w.alloc (.cells #[.int .i64 K, .string p, .string d, .int .i64 vr, .int .i64 fl] 60) = w0) := hw0
  simp only [List.length_append] at hl
  clear hw0 h
  go_enter Tryz.func73, Tryz.ntmps73
  go_upto_region 1 with fail
  rw [HW.out]
  obtain ⟨c0, c1, c2, c3, c4⟩ := cells_5N HS0.out.box
  go_wp2_with (first
    | (have hq := HS4; clear hq; go_at_call 58; refine Calls.mono (wr_num bw _ _ (fl) _ HS4.out.at' (hfl) (by simp only [List.length_append, List.length_nil]; omega)) ?_; intro e w5 hE; obtain ⟨v5, rfl, hs⟩ := (HS4.out).step hE; (have HS5 : Hid _ := hs); clear hs hE c0 c1 c2 c3 c4; obtain ⟨c0, c1, c2, c3, c4⟩ := cells_5N HS5.out.box)
    | (have hq := HS3; clear hq; go_at_call 108; refine Calls.mono (wr_version bw _ _ vr _ HS3.out.at' hvr (by simp only [List.length_append, List.length_nil]; omega)) ?_; intro e w4 hE; obtain ⟨v4, rfl, hs⟩ := (HS3.out).step hE; (have HS4 : Hid _ := hs); clear hs hE c0 c1 c2 c3 c4; obtain ⟨c0, c1, c2, c3, c4⟩ := cells_5N HS4.out.box)
    | (have hq := HS2; clear hq; go_at_call 107; refine Calls.mono (wr_txt bw _ _ (d) _ HS2.out.at' (by omega) (by simp only [List.length_append, List.length_nil]; omega)) ?_; intro e w3 hE; obtain ⟨v3, rfl, hs⟩ := (HS2.out).step hE; (have HS3 : Hid _ := hs); clear hs hE c0 c1 c2 c3 c4; obtain ⟨c0, c1, c2, c3, c4⟩ := cells_5N HS3.out.box)
    | (have hq := HS1; clear hq; go_at_call 107; refine Calls.mono (wr_txt bw _ _ (p) _ HS1.out.at' (by omega) (by simp only [List.length_append, List.length_nil]; omega)) ?_; intro e w2 hE; obtain ⟨v2, rfl, hs⟩ := (HS1.out).step hE; (have HS2 : Hid _ := hs); clear hs hE c0 c1 c2 c3 c4; obtain ⟨c0, c1, c2, c3, c4⟩ := cells_5N HS2.out.box)
    | (have hq := HS0; clear hq; go_at_call 58; refine Calls.mono (wr_num bw _ _ (K) _ HS0.out.at' (hK) (by simp only [List.length_append, List.length_nil]; omega)) ?_; intro e w1 hE; obtain ⟨v1, rfl, hs⟩ := (HS0.out).step hE; (have HS1 : Hid _ := hs); clear hs hE c0 c1 c2 c3 c4; obtain ⟨c0, c1, c2, c3, c4⟩ := cells_5N HS1.out.box)
    | fail)
  all_goals exact bodyPost_end (results_none rfl _ _ _) rfl (HS5.out.done (by simp only [List.nil_append, List.append_assoc]))
theorem w_op (bw : Nat) (v : Value) (xs : List Int) (e : OpN) (w : World) (h : WrAt 67 w bw v xs) (hok : e.Ok) (hl : xs.length + (opL e).length ≤ 1000000) :
    Calls Tryz.prog 73 #[.pointer (some ⟨bw, 0, none⟩), e.val] w (WrEnd 67 bw v xs (opL e) w) := by
  obtain ⟨h1, h2, h3, h4, h5⟩ := OpN.lens hok
  exact w_op_core bw v xs e.K e.p e.d e.v e.fl w h h1 h2 h3 h4 h5 hl
set_option maxHeartbeats 3200000 in
set_option maxRecDepth 100000 in
theorem wl_Op (bw : Nat) (v : Value) (xs : List Int) (a : Option Addr) (c : Nat) (L : List OpN) (w0 w : World) (h : WrAt 67 w bw v xs) (hk : Bk w0 w bw) (hL : RowC w0 a 5 (L.map OpN.cl)) (hn : L.length ≤ 1000000)
    (hC : ∀ x ∈ L, ∀ (v : Value) (xs : List Int) (W : World), WrAt 67 W bw v xs → Bk w0 W bw → xs.length + (opL x).length ≤ 1000000 → Calls Tryz.prog 73 #[.pointer (some ⟨bw, 0, none⟩), OpN.val x] W (WrEnd 67 bw v xs (opL x) W)) (hl : xs.length + (lsL opL L).length ≤ 1000000) :
    Calls Tryz.prog 72 #[.pointer (some ⟨bw, 0, none⟩), .slice a L.length c, .func (.func 73) #[] #[]] w (WrEnd 67 bw v xs (lsL opL L) w) := by
  have HL : Hid (RowC w0 a 5 (L.map OpN.cl)) := hL
  have HW : Hid (WrAt 67 w bw v xs) := h
  have HK : Hid (Bk w0 w bw) := hk
  have HC : Hid (∀ x ∈ L, ∀ (v : Value) (xs : List Int) (W : World), WrAt 67 W bw v xs → Bk w0 W bw → xs.length + (opL x).length ≤ 1000000 → Calls Tryz.prog 73 #[.pointer (some ⟨bw, 0, none⟩), OpN.val x] W (WrEnd 67 bw v xs (opL x) W)) := hC
  obtain ⟨T, hT⟩ : ∃ T, lsL opL L = T := ⟨_, rfl⟩
  have HT : Hid (lsL opL L = T) := hT
  have hT2 := congrArg List.length hT
  unfold lsL at hT2
  rw [List.length_append] at hT2
  obtain ⟨m, hm⟩ : ∃ m, L.length = m := ⟨_, rfl⟩
  have HM : Hid (L.length = m) := hm
  rw [hm] at hn hT2
  rw [hT] at hl ⊢
  rw [hm]
  have hT3 : (L.flatMap opL).length + (nmL m).length = T.length := by omega
  have HN : Hid _ := wr_num bw v xs m w h ⟨by omega, by omega⟩ (by omega)
  clear hm hL h hC hk hT hT2
  go_enter Tryz.func72, Tryz.ntmps72
  go_wp2_with (first
    | (go_at_call 58; refine Calls.mono HN.out ?_; intro e w1 hE; obtain ⟨v1, rfl, hs⟩ := (WrQ.start HW.out).step (by rw [List.append_nil]; exact hE); (have HS1 : Hid (WrQ 67 w bw v xs w1 v1 (nmL m)) := hs); clear hE hs)
    | fail)
  go_loopw [14] (fun iv wr => ∃ (q : Nat) (vq : Value), iv = .int .i64 q ∧ q ≤ m ∧ Hid (WrQ 67 w bw v xs wr vq (nmL m ++ (L.take q).flatMap opL))) (fun iv _ => m - (intOf iv).toNat)
  case atStart => exact ⟨0, v1, rfl, Nat.zero_le _, by show WrQ _ _ _ _ _ _ _ _; rw [List.take_zero, List.flatMap_nil, List.append_nil]; exact HS1.out⟩
  case round =>
    obtain ⟨q, vq, rfl, hqm, HSq⟩ := hrel
    by_cases hlt : q < m
    · have hlt' : (q : Int) < (m : Int) := by omega
      obtain ⟨x, hx⟩ : ∃ x, L[q]? = some x := ⟨L[q]'(by rw [HM.out]; exact hlt), List.getElem?_eq_getElem _⟩
      have HX : Hid (L[q]? = some x) := hx
      obtain ⟨b, o, rfl, n0, n1, n2, n3, n4⟩ := (HL.out.bk (HK.out.step HSq.out.low)).at5 (map_at hx)
      have hfl := flat_le (f := opL) hx
      clear hx
      go_wp2_with (first
        | (go_at_call 73; refine Calls.mono (HC.out x (List.mem_of_getElem? HX.out) vq _ _ (HSq.out.ext (by repeat (first | exact Below.refl _ _ | refine ext_set ?_ (Nat.le_refl _) | refine ext_alloc ?_ _))).at' (HK.out.step (HSq.out.ext (by repeat (first | exact Below.refl _ _ | refine ext_set ?_ (Nat.le_refl _) | refine ext_alloc ?_ _))).low) (by simp only [List.length_append]; omega)) ?_; intro e w2 hE; obtain ⟨v2, rfl, hs⟩ := (HSq.out.ext (by repeat (first | exact Below.refl _ _ | refine ext_set ?_ (Nat.le_refl _) | refine ext_alloc ?_ _))).step hE)
        | fail)
      have HS2 : Hid (WrQ 67 w bw v xs w2 v2 (nmL m ++ (L.take (q + 1)).flatMap opL)) := by
        show WrQ _ _ _ _ _ _ _ _
        rw [flat_take HX.out, ← List.append_assoc]
        exact hs
      clear hE hs hfl
      go_wp2_with fail
      go_roundw
      case rel => exact ⟨q + 1, v2, by go_num, by omega, HS2⟩
      case measure => simp [intOf]; omega
    · have hlt' : ¬ (q : Int) < (m : Int) := by omega
      go_wp2_with fail
      refine bodyPost_end (results_none rfl _ _ _) rfl (HSq.out.done ?_)
      rw [List.take_of_length_le (by have := HM.out; omega), ← HT.out, lsL, HM.out]
end Go.Proofs.YtdjfeomdiljaeaaGreatDoor
namespace Go.Proofs.YtdjfeomdiljaeaaGreatDoor
open Go.RowKit
set_option linter.unusedVariables false
set_option linter.unusedSimpArgs false

theorem owns_mono {w : World} {B B' e s n : Nat} {v : Value} {xs : List Value} (h : w.ownsRow B e s v n xs) (hB : B' ≤ B) : w.ownsRow B' e s v n xs :=
  ⟨h.1, h.2.imp id (fun ⟨g, cap, cur, h1, h2, r⟩ => ⟨g, cap, cur, h1, Nat.le_trans hB h2, r⟩)⟩
def enL (e : EnN) : List Int := nmsL [e.st, e.vw, e.K, e.se, e.rq] ++ lsL opL e.ops
theorem EnN.facts {e : EnN} (h : EnN.Ok e) : (∀ n ∈ [e.st, e.vw, e.K, e.se, e.rq], inN n) ∧ e.ops.length ≤ 4 ∧ ∀ x ∈ e.ops, OpN.Ok x := by
  obtain ⟨st, vw, K, se, rq, opsA, opsC, ops⟩ := e
  obtain ⟨h1, h2, h3, h4⟩ := h
  simp only at *
  have hk : inN K ∧ inN rq ∧ ops.length ≤ 4 ∧ ∀ x ∈ ops, OpN.Ok x := by
    rcases h4 with ⟨rfl, g1, g2, g3⟩ | h4
    · exact ⟨by decide, ⟨by omega, g1.2⟩, by omega, g3⟩
    · have hops : (ops.length : Int) = 0 → ops = [] := fun h => List.eq_nil_of_length_eq_zero (by omega)
      have hK : 2 ≤ K ∧ K ≤ 4 ∧ rq = 0 ∧ (ops.length : Int) = 0 := by omega
      obtain ⟨a1, a2, rfl, a4⟩ := hK
      rw [hops a4]
      exact ⟨⟨by omega, by omega⟩, by decide, by simp, by simp⟩
  refine ⟨?_, hk.2.2⟩
  intro n hn
  simp only [List.mem_cons, List.not_mem_nil, or_false] at hn
  rcases hn with rfl | rfl | rfl | rfl | rfl
  · exact ⟨by omega, h1.2⟩
  · exact h2
  · exact hk.1
  · exact ⟨by omega, h3.2⟩
  · exact hk.2.1
theorem nmLe {n : Int} (h : inN n) : (nmL n).length ≤ 5 := numLe (by have := h.2; omega)
theorem opLe {e : OpN} (h : e.Ok) : (opL e).length ≤ 550 := by
  obtain ⟨h1, h2, h3, h4, h5⟩ := OpN.lens h
  have a1 := nmLe h1
  have a2 := nmLe h2
  have a3 := textLe (t := e.p) (by omega)
  have a4 := textLe (t := e.d) (by omega)
  have a5 : (vrL e.v).length ≤ 10 := by
    unfold vrL
    split
    · have := nmLe (n := 0) (by decide)
      omega
    · have b1 := nmLe (n := 1) (by decide)
      have b2 := nmLe (h3.resolve_left (by assumption))
      rw [List.length_append]
      omega
  unfold opL
  simp only [List.length_append]
  omega
theorem flat_len {E : Type} {f : E → List Int} {k : Nat} : ∀ {L : List E}, (∀ x ∈ L, (f x).length ≤ k) → (L.flatMap f).length ≤ L.length * k
  | [], _ => by simp
  | x :: L, h => by
    have h1 := flat_len (f := f) (k := k) (L := L) (fun y hy => h y (by simp [hy]))
    have h2 := h x (by simp)
    simp only [List.flatMap_cons, List.length_append, List.length_cons, Nat.add_mul]
    omega
theorem lsLe {E : Type} {f : E → List Int} {k : Nat} {L : List E} (h : ∀ x ∈ L, (f x).length ≤ k) (hn : L.length ≤ 1000000) : (lsL f L).length ≤ L.length * k + 5 := by
  have h1 := flat_len h
  have h2 := nmLe (n := (L.length : Int)) ⟨by omega, by omega⟩
  unfold lsL
  rw [List.length_append]
  omega
theorem nmsLe {l : List Int} (h : ∀ n ∈ l, inN n) : (nmsL l).length ≤ l.length * 5 := flat_len (fun x hx => nmLe (h x hx))
theorem enLe {e : EnN} (h : EnN.Ok e) : (enL e).length ≤ 2300 := by
  obtain ⟨h1, h2, h3⟩ := EnN.facts h
  have a1 := nmsLe h1
  have a2 := lsLe (f := opL) (k := 550) (fun x hx => opLe (h3 x hx)) (by omega)
  have a3 : e.ops.length * 550 ≤ 4 * 550 := Nat.mul_le_mul_right _ h2
  unfold enL
  rw [List.length_append]
  simp only [List.length_cons, List.length_nil] at a1
  omega
set_option maxHeartbeats 3200000 in
set_option maxRecDepth 100000 in
theorem w_entry_core (bw : Nat) (v : Value) (xs : List Int) (st vw K se rq : Int) (opsA : Option Addr) (opsC : Nat) (ops : List OpN) (w0' : World) (w : World) (h : WrAt 67 w bw v xs) (hk : Bk w0' w bw) (hA : RowC w0' opsA 5 (ops.map OpN.cl)) (hv : ∀ n ∈ [st, vw, K, se, rq], inN n) (hn : ops.length ≤ 1000000) (ho : ∀ x ∈ ops, OpN.Ok x) (hl : xs.length + (nmsL [st, vw, K, se, rq] ++ lsL opL ops).length ≤ 1000000) :
    Calls Tryz.prog 26 #[.pointer (some ⟨bw, 0, none⟩), .agg #[.int .i64 st, .int .i64 vw, .int .i64 K, .int .i64 se, .int .i64 rq, .slice opsA ops.length opsC]] w (WrEnd 67 bw v xs (nmsL [st, vw, K, se, rq] ++ lsL opL ops) w) := by
  obtain ⟨w0, hw0⟩ : ∃ w0, w.alloc (.cells #[.int .i64 st, .int .i64 vw, .int .i64 K, .int .i64 se, .int .i64 rq, .slice opsA ops.length opsC] 24) = w0 := ⟨_, rfl⟩
  have HS0 : Hid (WrS 67 w bw v xs w.heap.size (.cells #[.int .i64 st, .int .i64 vw, .int .i64 K, .int .i64 se, .int .i64 rq, .slice opsA ops.length opsC] 24 (0, 0)) w0 v []) := WrS.start h _ hw0 (by rw [← hw0]; exact heap_alloc_new _ _)
  have HW : Hid (w.alloc (.cells #[.int .i64 st, .int .i64 vw, .int .i64 K, .int .i64 se, .int .i64 rq, .slice opsA ops.length opsC] 24) = w0) := hw0
  simp only [List.length_append] at hl
  have HK : Hid (Bk w0' w bw) := hk
  have HA : Hid (RowC w0' opsA 5 (ops.map OpN.cl)) := hA
  clear hk hA
  clear hw0 h
  go_enter Tryz.func26, Tryz.ntmps26
  go_upto_region 1 with fail
  rw [HW.out]
  obtain ⟨c0, c1, c2, c3, c4, c5⟩ := cells_6N HS0.out.box
  go_wp2_with (first
    | (have hq := HS1; clear hq; go_at_call 72; refine Calls.mono (wl_Op bw _ _ opsA opsC ops w0' _ HS1.out.at' (HK.out.step HS1.out.low) HA.out hn (fun x hx v xs W h hb hl => w_op bw v xs x W h (ho x hx) hl) (by simp only [List.length_append, List.length_nil]; omega)) ?_; intro e w2 hE; obtain ⟨v2, rfl, hs⟩ := (HS1.out).step hE; (have HS2 : Hid _ := hs); clear hs hE c0 c1 c2 c3 c4 c5; obtain ⟨c0, c1, c2, c3, c4, c5⟩ := cells_6N HS2.out.box)
    | (have hq := HS0; clear hq; go_at_call 71; (have hS : WrS 67 w bw v xs _ _ (w0.alloc (.cells #[.int .i64 st, .int .i64 vw, .int .i64 K, .int .i64 se, .int .i64 rq] 3)) v _ := HS0.out.ext (ext_alloc (Below.refl _ _) _)); (have hD : ∀ b o, some (⟨w0.heap.size, 0, none⟩ : Addr) = some ⟨b, o, none⟩ → b ≠ bw ∧ v.ownBlock ≠ some b := fun b o hb => by cases hb; exact ⟨by have := HS0.out.at'.lt; omega, HS0.out.at'.own_ne (Nat.le_refl _)⟩); (have hN := wr_nums bw _ _ _ 5 [st, vw, K, se, rq] _ hS.at' (rowC_new w0 [st, vw, K, se, rq] (show 5 ≤ maxLen by decide)) hD (hv) (by simp only [List.length_append, List.length_nil]; omega)); refine Calls.mono hN ?_; intro e w1 hE; obtain ⟨v1, rfl, hs⟩ := (hS).step hE; (have HS1 : Hid _ := hs); clear hs hE hS hD hN c0 c1 c2 c3 c4 c5; obtain ⟨c0, c1, c2, c3, c4, c5⟩ := cells_6N HS1.out.box)
    | fail)
  all_goals exact bodyPost_end (results_none rfl _ _ _) rfl (HS2.out.done (by simp only [List.nil_append, List.append_assoc]))
theorem w_entry (bw : Nat) (v : Value) (xs : List Int) (e : EnN) (w0 w : World) (h : WrAt 67 w bw v xs) (hk : Bk w0 w bw) (hA : e.At w0) (hok : e.Ok) (hl : xs.length + (enL e).length ≤ 1000000) :
    Calls Tryz.prog 26 #[.pointer (some ⟨bw, 0, none⟩), e.val] w (WrEnd 67 bw v xs (enL e) w) := by
  obtain ⟨h1, h2, h3⟩ := EnN.facts hok
  exact w_entry_core bw v xs e.st e.vw e.K e.se e.rq e.opsA e.opsC e.ops w0 w h hk hA.ops h1 (by omega) h3 hl
set_option maxHeartbeats 3200000 in
set_option maxRecDepth 100000 in
theorem enc1_any (be : Nat) (x : EnN) (w : World) (hb : w.heap[be]? = some (.cells #[.int .i64 x.st, .int .i64 x.vw, .int .i64 x.K, .int .i64 x.se, .int .i64 x.rq, .slice x.opsA x.ops.length x.opsC] 24 (0, 0))) (hA : x.At w) :
    Calls Tryz.prog 24 #[.pointer (some ⟨be, 0, none⟩)] w fun e w1 => ((∃ V, e = .returned V ∧ (x.Ok ∧ ∃ a c, V = .slice a (enL x).length c ∧ w1.ownsRow w.heap.size 5 1 V (enL x).length (bv (enL x)))) ∨ e = .panicked PN ∧ ¬ x.Ok) ∧ Below w.heap.size w w1 := by
  obtain ⟨ok, hok⟩ : ∃ ok : Prop, x.Ok = ok := ⟨_, rfl⟩
  have HOK : Hid (x.Ok = ok) := hok
  rw [hok]
  have HB : Hid (w.heap[be]? = some (.cells #[.int .i64 x.st, .int .i64 x.vw, .int .i64 x.K, .int .i64 x.se, .int .i64 x.rq, .slice x.opsA x.ops.length x.opsC] 24 (0, 0))) := hb
  have HA : Hid (x.At w) := hA
  have HC : Hid (Calls Tryz.prog 25 #[x.val] w (CK x.Ok w)) := En_ck x w hA
  obtain ⟨c0, c1, c2, c3, c4, c5⟩ := cells_6N hb
  clear hA hok
  go_enter Tryz.func24, Tryz.ntmps24
  go_wp2_with (first
    | (go_at_call 25; refine Calls.mono HC.out ?_; rintro e w1 ⟨⟨rfl, h⟩ | ⟨rfl, h⟩, hb1⟩
       rotate_left
       · exact ⟨rfl, .inr ⟨rfl, by rw [← HOK.out]; exact h⟩, hb1⟩
       have H0 : Hid (x.Ok) := h
       have HB1 : Hid (Below w.heap.size w w1) := hb1
       have HE1 : Hid (w1.heap[be]? = some (.cells #[.int .i64 x.st, .int .i64 x.vw, .int .i64 x.K, .int .i64 x.se, .int .i64 x.rq, .slice x.opsA x.ops.length x.opsC] 24 (0, 0))) := kept_block hb1 HB.out
       have HW1 : Hid (WrAt 67 (w1.alloc (.cells #[.slice none 0 0] 67)) w1.heap.size (.slice none 0 0) []) := WrAt.new w1
       clear h hb1 c0 c1 c2 c3 c4 c5
       have hbe := lt_of_blk HE1.out
       obtain ⟨c0, c1, c2, c3, c4, c5⟩ := cells_6N (kept_block ((Below.refl _ _).alloc (Nat.le_refl _) (.cells #[.slice none 0 0] 67)) HE1.out))
    | (go_at_call 26; refine Calls.mono (w_entry w1.heap.size _ _ x w1 _ HW1.out ⟨Nat.le_refl _, (Below.refl _ _).alloc (Nat.le_refl _) _⟩ (HA.out.below HB1.out) H0.out (by have := enLe H0.out; simp only [List.length_nil]; omega)) ?_
       rintro e w2 ⟨v2, rfl, ha, hb2, _⟩
       have HW2 : Hid (WrAt 67 w2 w1.heap.size v2 (enL x)) := ha
       have HB2 : Hid (Below w.heap.size w w2) := (HB1.out.alloc HB1.out.size _).trans (hb2.mono HB1.out.size)
       clear ha hb2 c0 c1 c2 c3 c4 c5
       have c0 := cells_1 HW2.out.box)
    | fail)
  go_ret
  obtain ⟨a, c, rfl, _⟩ := bys_of_owns HW2.out.row
  have hrow := HW2.out.row
  exact ⟨.inl ⟨_, rfl, by rw [← HOK.out]; exact H0.out, a, c, rfl, owns_mono hrow HB1.out.size⟩, HB2.out⟩
end Go.Proofs.YtdjfeomdiljaeaaGreatDoor
