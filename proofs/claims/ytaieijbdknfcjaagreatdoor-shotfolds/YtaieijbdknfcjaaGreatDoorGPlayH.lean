import Derived.Deep.QuietTactic
import Derived.BigQuiet
import Derived.Test.YtaieijbdknfcjaaGreatDoorGSeen
import Derived.Deep.RegionLaw
import Derived.Shelf.Abstract
namespace Go.Proofs.YtaieijbdknfcjaaGreatDoor
open Go.RowKit Classical
set_option linter.unusedVariables false
set_option linter.unusedSimpArgs false

def mgB (l : List SeenT) (i : Nat) (a : ByteArray) : Bool := !decide (a = pRoot) && !(match l[i + 1]? with | some y => covers 3 a 3 y.p | none => false)
theorem mg_go {l : List SeenT} (h : InvF l) {a : ByteArray} (ha : hasP l a = true) : mgB l (pos l a) a = goB l a := by
  unfold mgB goB
  congr 2
  rw [Bool.eq_iff_iff, go_next h ha]
  cases l[pos l a + 1]? with
  | none => simp
  | some y => simp
set_option maxHeartbeats 3200000 in
set_option maxRecDepth 100000 in
theorem mayGo_any (a : Option Addr) (c n i : Nat) (l : List SeenT) (x : SeenT) (w : World) (hg : Ground w) (hs : Ss w a l) (hn : l.length = n) (hl : n ≤ 1000) (hx : l[i]? = some x) :
    Calls Tryz.prog 37 #[.slice a n c, .int .i64 i] w fun e w' => e = .returned (.bool (mgB l i x.p)) ∧ Below w.heap.size w w' := by
  have hi : i < n := by rw [← hn]; exact (List.getElem?_eq_some_iff.1 hx).1
  have hi' : (i : Int) < (n : Int) := by omega
  obtain ⟨b, o, rfl, hb, x0, x1, x2⟩ := hs.at hx
  by_cases hr : x.p = pRoot
  · have HM : Hid (mgB l i x.p = false) := by show _ = _; simp [mgB, hr]
    rw [hr] at x0
    clear hs hx hg
    go_enter Tryz.func37, Tryz.ntmps37
    go_wp2_with fail
    go_ret
    exact ⟨by rw [HM.out]; rfl, Below.refl _ _⟩
  · have hr' : (x.p.toList == [47]) = false := by
      have h1 := eqL x.p pRoot
      rw [show pRoot.toList = [47] by rw [ByteArray.toList_eq]] at h1
      rw [h1]
      simp [hr]
    by_cases he : i + 1 = n
    · have HM : Hid (mgB l i x.p = true) := by
        show _ = _
        unfold mgB
        rw [List.getElem?_eq_none (by omega)]
        simp [hr]
      have he' : (i : Int) + 1 = (n : Int) := by omega
      have hw1 : IntKind.i64.wrap ((i : Int) + 1) = (n : Int) := by rw [he', IntKind.wrap_i64]; omega
      clear hs hx hg
      go_enter Tryz.func37, Tryz.ntmps37
      go_wp2_with fail
      go_ret
      exact ⟨by rw [HM.out]; rfl, Below.refl _ _⟩
    · obtain ⟨y, hy⟩ : ∃ y, l[i + 1]? = some y := ⟨l[i + 1]'(by omega), List.getElem?_eq_getElem _⟩
      have HM : Hid (mgB l i x.p = !covers 3 x.p 3 y.p) := by
        show _ = _
        unfold mgB
        rw [hy]
        simp [hr]
      obtain ⟨b', o', hab, hb', y0, y1, y2⟩ := hs.at hy
      cases hab
      have hw1 : IntKind.i64.wrap ((i : Int) + 1) = ((i + 1 : Nat) : Int) := by rw [IntKind.wrap_i64]; omega
      have he' : ¬ (((i + 1 : Nat) : Int) = (n : Int)) := by omega
      have hlt : ((i + 1 : Nat) : Int) < (n : Int) := by omega
      have HE : Hid ((((i : Int) + 1) == (n : Int)) = false) := by show _ = _; simp; omega
      have HG : Hid (Ground w) := hg
      clear hs hx hg hy
      go_enter Tryz.func37, Tryz.ntmps37
      go_wp2_with fail
      refine (covers_any 3 3 x.p y.p w HG.out).mono ?_
      rintro e w1 ⟨rfl, hb1⟩
      go_wp2_with fail
      go_ret
      exact ⟨by rw [HM.out]; show Ending.returned (.bool (((i : Int) + 1 == (n : Int)) || !covers 3 x.p 3 y.p)) = _; rw [HE.out, Bool.false_or], hb1⟩
theorem eqLf {x y : ByteArray} (h : x ≠ y) : (x.toList == y.toList) = false := by rw [eqL]; simp [h]
set_option maxHeartbeats 3200000 in
set_option maxRecDepth 100000 in
theorem mayMake_any (bs : Nat) (st : Int) (p : ByteArray) (k : Int) (a : Option Addr) (n cap : Nat) (l : List SeenT) (c : ChT) (w : World) (hg : Ground w) (hb : w.heap[bs]? = some (.cells (shA st p k a n cap) 24 (0, 0))) (hs : Ss w a l) (hn : l.length = n) (hl : n ≤ 1000) (hok : ∀ s ∈ l, s.p.size ≤ maxLen) (hasc : Asc l) :
    Calls Tryz.prog 33 #[.pointer (some ⟨bs, 0, none⟩), .agg (chA c)] w fun e w' => e = .returned (.bool (mkB p l c)) ∧ Below w.heap.size w w' := by
  obtain ⟨ck, cp, cd, cv⟩ := c
  have HC0 : Hid ((w.alloc (.cells #[.int .i64 ck, .string cp, .string cd, .int .i64 cv] 39)).heap[w.heap.size]? = some (.cells #[.int .i64 ck, .string cp, .string cd, .int .i64 cv] 39 (0, 0))) := heap_alloc_new _ _
  have HB0 : Hid ((w.alloc (.cells #[.int .i64 ck, .string cp, .string cd, .int .i64 cv] 39)).heap[bs]? = some (.cells (shA st p k a n cap) 24 (0, 0))) := new_old hb _
  have HW0 : Hid (Below w.heap.size w (w.alloc (.cells #[.int .i64 ck, .string cp, .string cd, .int .i64 cv] 39))) := (Below.refl _ _).alloc (Nat.le_refl _) _
  have HT : Hid (∀ w, Calls Tryz.prog 36 #[.string cd, .int .i64 cv] w fun e w' => e = .returned (.bool (fitB cd cv)) ∧ w' = w) := fun w => fits_any cd cv w
  have HN : Hid (l.length = n) := hn
  have HP : Hid (∀ w', Below w.heap.size w w' → Calls Tryz.prog 50 #[.slice a n cap, .string cp] w' fun e w'' => e = .returned (.bool (hasP l (upP cp))) ∧ Below w'.heap.size w' w'') := fun w' hb' => by
    have := hasParent_any a cap l cp w' (hg.below hb') (hs.below hb') (by omega) hok hasc
    rw [hn] at this
    exact this
  clear hg hb hs hn hok hasc
  obtain ⟨c0, c1, c2, c3⟩ := cells_4 HC0.out
  obtain ⟨s0, s1, s2, s3⟩ := cells_4 HB0.out
  have HD : Hid (decide ((n : Int) < 64) = decide (n < 64)) := decide_eq_decide.2 (by omega)
  obtain ⟨ft, hft⟩ : ∃ ft, fitB cd cv = ft := ⟨_, rfl⟩
  have HFT : Hid (fitB cd cv = ft) := hft
  rw [hft] at HT
  clear hft
  by_cases hpp : cp = p
  · have HM : Hid (mkB p l ⟨ck, cp, cd, cv⟩ = (ft && decide (n < 64))) := by show _ = _; simp [mkB, hpp, HN.out, HFT.out]
    subst hpp
    cases ft with
    | false =>
      go_enter Tryz.func33, Tryz.ntmps33
      go_wp2_with fail
      go_quiet (fail)
      go_wp2_with fail
      refine (HT.out _).mono ?_
      rintro e w2 ⟨rfl, rfl⟩
      go_wp2_with fail
      go_ret
      exact ⟨by rw [HM.out]; rfl, below_drewN HW0.out _⟩
    | true =>
      go_enter Tryz.func33, Tryz.ntmps33
      go_wp2_with fail
      go_quiet (fail)
      go_wp2_with fail
      refine (HT.out _).mono ?_
      rintro e w2 ⟨rfl, rfl⟩
      go_wp2_with fail
      go_ret
      exact ⟨by rw [HM.out]; show Ending.returned (.bool (decide ((n : Int) < 64))) = _; rw [HD.out]; rfl, below_drewN HW0.out _⟩
  · have hne := eqLf hpp
    have HM : Hid (mkB p l ⟨ck, cp, cd, cv⟩ = (hasP l (upP cp) && (ft && decide (n < 64)))) := by show _ = _; simp [mkB, hpp, HN.out, HFT.out]
    obtain ⟨hh, hhe⟩ : ∃ hh, hasP l (upP cp) = hh := ⟨_, rfl⟩
    rw [hhe] at HP HM
    clear hhe
    cases hh with
    | false =>
      go_enter Tryz.func33, Tryz.ntmps33
      go_wp2_with fail
      go_region_held3 (fun w' => w'.cell? ⟨bs, 1, none⟩ = some (.string p) ∧ w'.cell? ⟨bs, 3, none⟩ = some (.slice a n cap) ∧ w'.cell? ⟨w.heap.size, 1, none⟩ = some (.string cp)) (first | exact ⟨s1, s3, c1⟩ | go_keep)
        (first
        | (go_at_call 50; refine (HP.out _ (below_drew HW0.out)).mono ?_; rintro e w1 ⟨rfl, hb1⟩
           have HW1 : Hid (Below w.heap.size w w1) := trans2 HW0.out (of_drew hb1)
           have HB1 : Hid _ := kept_block (W := World.drew _) hb1 HB0.out
           have HC1 : Hid _ := kept_block (W := World.drew _) hb1 HC0.out
           clear hb1 c0 c1 c2 c3 s0 s1 s2 s3
           obtain ⟨c0, c1, c2, c3⟩ := cells_4 HC1.out
           obtain ⟨s0, s1, s2, s3⟩ := cells_4 HB1.out)
        | fail)
      go_wp2_with fail
      go_ret
      exact ⟨by rw [HM.out]; rfl, HW1.out⟩
    | true =>
      go_enter Tryz.func33, Tryz.ntmps33
      go_wp2_with fail
      go_region_held3 (fun w' => w'.cell? ⟨bs, 1, none⟩ = some (.string p) ∧ w'.cell? ⟨bs, 3, none⟩ = some (.slice a n cap) ∧ w'.cell? ⟨w.heap.size, 1, none⟩ = some (.string cp)) (first | exact ⟨s1, s3, c1⟩ | go_keep)
        (first
        | (go_at_call 50; refine (HP.out _ (below_drew HW0.out)).mono ?_; rintro e w1 ⟨rfl, hb1⟩
           have HW1 : Hid (Below w.heap.size w w1) := trans2 HW0.out (of_drew hb1)
           have HB1 : Hid _ := kept_block (W := World.drew _) hb1 HB0.out
           have HC1 : Hid _ := kept_block (W := World.drew _) hb1 HC0.out
           clear hb1 c0 c1 c2 c3 s0 s1 s2 s3
           obtain ⟨c0, c1, c2, c3⟩ := cells_4 HC1.out
           obtain ⟨s0, s1, s2, s3⟩ := cells_4 HB1.out)
        | fail)
      go_wp2_with fail
      refine (HT.out _).mono ?_
      rintro e w2 ⟨rfl, rfl⟩
      cases ft with
      | false =>
        go_wp2_with fail
        go_ret
        exact ⟨by rw [HM.out]; rfl, HW1.out⟩
      | true =>
        go_wp2_with fail
        go_ret
        exact ⟨by rw [HM.out]; show Ending.returned (.bool (decide ((n : Int) < 64))) = _; rw [HD.out]; rfl, HW1.out⟩
end Go.Proofs.YtaieijbdknfcjaaGreatDoor
namespace Go.Proofs.YtaieijbdknfcjaaGreatDoor
open Go.RowKit Classical
set_option linter.unusedVariables false
set_option linter.unusedSimpArgs false

/-- A shot that is being folded. -/
structure PAt (W w : World) (bs : Nat) (st : Int) (p : ByteArray) (k : Int) (a : Option Addr) (n cap : Nat) (l : List SeenT) : Prop where
  low : Below W.heap.size W w
  bsl : W.heap.size ≤ bs
  box : w.heap[bs]? = some (.cells (shA st p k a n cap) 24 (0, 0))
  len : l.length = n
  row : w.ownsRow W.heap.size 36 3 (.slice a n cap) n (seCs l)
theorem PAt.below {W w w' : World} {bs : Nat} {st : Int} {p : ByteArray} {k : Int} {a : Option Addr} {n cap : Nat} {l : List SeenT} (h : PAt W w bs st p k a n cap l) (hb : Below w.heap.size w w') : PAt W w' bs st p k a n cap l := ⟨trans2 h.low hb, h.bsl, kept_block hb h.box, h.len, owns_below h.row hb⟩
theorem PAt.ne {W w : World} {bs : Nat} {st : Int} {p : ByteArray} {k : Int} {a : Option Addr} {n cap : Nat} {l : List SeenT} (h : PAt W w bs st p k a n cap l) {b : Nat} {cs : Array Value} {t : TypeId} (hb : w.heap[b]? = some (.cells cs t (0, 0))) (ht : t ≠ 36) : (Value.slice a n cap).ownBlock ≠ some b := fun e => by
  rcases h.row.2 with ⟨h0, _⟩ | ⟨g, cap', cur, hv, _, hg, _⟩
  · cases h0; cases e
  · cases hv
    cases e
    rw [hb] at hg
    cases hg
    exact ht rfl
theorem PAt.ss {W w : World} {bs : Nat} {st : Int} {p : ByteArray} {k : Int} {a : Option Addr} {n cap : Nat} {l : List SeenT} (h : PAt W w bs st p k a n cap l) : Ss w a l := ss_of_row h.row
structure PC (W w : World) (bs cb : Nat) (st : Int) (p : ByteArray) (k : Int) (a : Option Addr) (n cap : Nat) (l : List SeenT) (c : ChT) : Prop where
  pat : PAt W w bs st p k a n cap l
  cbx : w.heap[cb]? = some (.cells (chA c) 39 (0, 0))
theorem PC.below {W w w' : World} {bs cb : Nat} {st : Int} {p : ByteArray} {k : Int} {a : Option Addr} {n cap : Nat} {l : List SeenT} {c : ChT} (h : PC W w bs cb st p k a n cap l c) (hb : Below w.heap.size w w') : PC W w' bs cb st p k a n cap l c := ⟨h.pat.below hb, kept_block hb h.cbx⟩
theorem PC.belowD {W w w' : World} {bs cb : Nat} {st : Int} {p : ByteArray} {k : Int} {a : Option Addr} {n cap : Nat} {l : List SeenT} {c : ChT} (h : PC W w bs cb st p k a n cap l c) (hb : Below w.drew.heap.size w.drew w') : PC W w' bs cb st p k a n cap l c := h.below (of_drew hb)
theorem owns_formA {w : World} {B e s n : Nat} {v : Value} {xs : List Value} (h : w.ownsRow B e s v n xs) : ∃ a c, v = .slice a n c := by
  rcases h.2 with ⟨h0, h1⟩ | ⟨g, cap, cur, hv, _⟩
  · exact ⟨none, 0, by rw [h0, h1]⟩
  · exact ⟨_, cap, hv⟩
/-- Another row stands in the box. -/
theorem PAt.put {W w : World} {bs : Nat} {st : Int} {p : ByteArray} {k : Int} {v0 : Value} {a : Option Addr} {n cap : Nat} {l : List SeenT} (low : Below W.heap.size W w) (bsl : W.heap.size ≤ bs) (box : w.heap[bs]? = some (.cells #[.int .i64 st, .string p, .int .i64 k, v0] 24 (0, 0))) (len : l.length = n) (row : w.ownsRow W.heap.size 36 3 (.slice a n cap) n (seCs l)) :
    PAt W (w.setCell ⟨bs, 3, none⟩ (.slice a n cap)) bs st p k a n cap l := by
  refine ⟨low.setCell bsl _, bsl, same_blk (i := 3) (v := .slice a n cap) (cs' := shA st p k a n cap) box rfl, len, owns_same row (fun j hj => Below.heap_setCell w ⟨bs, 3, none⟩ _ j (fun e => ?_))⟩
  rcases row.2 with ⟨h0, _⟩ | ⟨g, cap', cur, hv, _, hg, _⟩
  · cases h0; cases hj
  · cases hv
    cases hj
    rw [show g = bs from e, box] at hg
    cases hg
theorem below_chg {W w w' : World} {S : Nat → Prop} (h : Below W.heap.size W w) (hc : Chg w w' S) (hs : ∀ k, S k → W.heap.size ≤ k) : Below W.heap.size W w' :=
  ⟨hc.os.trans h.os, hc.tape.trans h.tape, hc.output.trans h.output, Nat.le_trans h.size hc.size, fun k hk => (hc.block k (Nat.lt_of_lt_of_le hk h.size) (fun hS => by have := hs k hS; omega)).trans (h.block k hk)⟩
theorem insert_n (base gx i n : Nat) (a : Option Addr) (cap : Nat) (l : List SeenT) (x : SeenT) (w : World) (hn : l.length = n) (ho : w.ownsRow base 36 3 (.slice a n cap) n (seCs l)) (hi : i ≤ n) (hl : n ≤ 100000) (hx : w.heap[gx]? = some (.cells (seC x) 36 (0, 0))) (hne : (Value.slice a n cap).ownBlock ≠ some gx) (hB : base ≤ w.heap.size) :
    Calls Tryz.prog 34 #[.slice a n cap, .int .i64 i, .slice (some ⟨gx, 0, none⟩) 1 1] w fun e w' =>
      ∃ a' cap', e = .returned (.slice a' (n + 1) cap') ∧ w'.ownsRow base 36 3 (.slice a' (n + 1) cap') (n + 1) (seCs (l.take i ++ x :: l.drop i)) ∧ Chg w w' (fun k => (Value.slice a n cap).ownBlock = some k) := by
  subst hn
  refine (insert_any base gx i a cap l x w ho hi hl hx hne hB).mono ?_
  rintro e w' ⟨v', rfl, h1, h2⟩
  obtain ⟨a', cap', rfl⟩ := owns_formA h1
  exact ⟨a', cap', rfl, h1, h2⟩
theorem delete_n (base i n : Nat) (a : Option Addr) (cap : Nat) (l : List SeenT) (w : World) (hn : l.length = n) (ho : w.ownsRow base 36 3 (.slice a n cap) n (seCs l)) (hi : i < n) :
    Calls Tryz.prog 38 #[.slice a n cap, .int .i64 i, .int .i64 ((i : Int) + 1)] w fun e w' =>
      e = .returned (.slice a (n - 1) cap) ∧ w'.ownsRow base 36 3 (.slice a (n - 1) cap) (n - 1) (seCs (l.take i ++ l.drop (i + 1))) ∧ Chg w w' (fun k => (Value.slice a n cap).ownBlock = some k) := by
  subst hn
  obtain ⟨g, rfl⟩ : ∃ g, a = some ⟨g, 0, none⟩ := by
    rcases ho.2 with ⟨h0, h1⟩ | ⟨g', cap', cur, hv, _⟩
    · omega
    · cases hv; exact ⟨g', rfl⟩
  obtain ⟨cur, hr, hbg⟩ := rw_of ho
  refine (delete_any g cap i l cur w hr hi).mono ?_
  rintro e w' ⟨rfl, ⟨cur', h'⟩, hc⟩
  refine ⟨rfl, ?_, hc.mono (fun k _ h => by rw [h]; rfl)⟩
  have := h'.owns (base := base) hbg
  rw [show (l.take i ++ l.drop (i + 1)).length = l.length - 1 by simp; omega] at this
  exact this
theorem seCs_set : ∀ (l : List SeenT) (i : Nat) (x : SeenT), i < l.length → (((seCs l).set (i * 3) (.string x.p)).set (i * 3 + 1) (.string x.d)).set (i * 3 + 2) (.int .i64 x.v) = seCs (l.take i ++ x :: l.drop (i + 1))
  | [], i, x, h => by simp at h
  | y :: r, 0, x, h => by simp [seCs]
  | y :: r, i + 1, x, h => by
    have h1 : seCs (y :: r) = y.cells ++ seCs r := by simp [seCs]
    have h2 : seCs ((y :: r).take (i + 1) ++ x :: (y :: r).drop (i + 1 + 1)) = y.cells ++ seCs (r.take i ++ x :: r.drop (i + 1)) := by simp [seCs]
    rw [h1, h2, ← seCs_set r i x (by simpa using h)]
    rw [show (i + 1) * 3 = y.cells.length + i * 3 by simp; omega]
    rw [List.set_append_right _ _ (by omega), List.set_append_right _ _ (by omega), List.set_append_right _ _ (by omega)]
    congr 3
    · congr 2 <;> omega
    · omega
    · omega
theorem step_call2 {P : Program} {ops : Array Oper} {o : Oper} {a : Act} {w : World} {K : Act → World → Prop} {Q : Exit → Act → World → Prop} {E : Prop} (hgd : o.guard = none) (f : FuncId) (x y : Operand) (ts : Array TypeId)
    (ho : o.op = .call { callee := .value (.func f), args := #[x, y], argTypes := ts }) (ef : ∀ args w, (callFunc f args).run P w = .ok (.enter f args) w) (u v : Value) (hx : a.eval x = u) (hy : a.eval y = v) {R : Ending → World → Prop} (hc : Calls P f #[u, v] w R)
    (h : ∀ e w', R e w' → ∃ r, e = .returned r ∧ K (a.put o.dst r) w') :
    if Region.wanted o (yielded ops a.tmps) = true then Oper.wp P o a w K Q else E := by
  have hw : Region.wanted o (yielded ops a.tmps) = true := by simp [Region.wanted, hgd]
  rw [if_pos hw]
  have he : (execOp a.eval o).run P w = .ok (.enter f #[u, v]) w := by
    have hf : a.eval (.func f) = .func (.func f) #[] #[] := rfl
    simp [execOp, ho, resolve, invoke, Deferred.ofValue, hx, hy, hf, ef]
  unfold Oper.wp
  rw [he, Oper.upon_enter]
  refine hc.mono ?_
  intro e w' hR
  obtain ⟨r, rfl, hk⟩ := h e w' hR
  exact hk
theorem step_call3 {P : Program} {ops : Array Oper} {o : Oper} {a : Act} {w : World} {K : Act → World → Prop} {Q : Exit → Act → World → Prop} {E : Prop} (hgd : o.guard = none) (f : FuncId) (x y z : Operand) (ts : Array TypeId)
    (ho : o.op = .call { callee := .value (.func f), args := #[x, y, z], argTypes := ts }) (ef : ∀ args w, (callFunc f args).run P w = .ok (.enter f args) w) (u v t : Value) (hx : a.eval x = u) (hy : a.eval y = v) (hz : a.eval z = t) {R : Ending → World → Prop} (hc : Calls P f #[u, v, t] w R)
    (h : ∀ e w', R e w' → ∃ r, e = .returned r ∧ K (a.put o.dst r) w') :
    if Region.wanted o (yielded ops a.tmps) = true then Oper.wp P o a w K Q else E := by
  have hw : Region.wanted o (yielded ops a.tmps) = true := by simp [Region.wanted, hgd]
  rw [if_pos hw]
  have he : (execOp a.eval o).run P w = .ok (.enter f #[u, v, t]) w := by
    have hf : a.eval (.func f) = .func (.func f) #[] #[] := rfl
    simp [execOp, ho, resolve, invoke, Deferred.ofValue, hx, hy, hz, hf, ef]
  unfold Oper.wp
  rw [he, Oper.upon_enter]
  refine hc.mono ?_
  intro e w' hR
  obtain ⟨r, rfl, hk⟩ := h e w' hR
  exact hk
abbrev PlayEnd (W : World) (bs : Nat) (st : Int) (p : ByteArray) (k : Int) (l : List SeenT) (c : ChT) (e : Ending) (w' : World) : Prop :=
  (stepF k p l c = none ∧ e = .returned (.bool false) ∧ Below W.heap.size W w') ∨ (∃ m, stepF k p l c = some m ∧ e = .returned (.bool true) ∧ ∃ a' cap', PAt W w' bs st p k a' m.length cap' m)
theorem isP_size' {x : ByteArray} (h : isP x = true) : x.size ≤ 102 := by
  obtain ⟨⟨c, xs⟩, hp⟩ : ∃ q, parse x = q := ⟨_, rfl⟩
  have hc : c = 0 := by have := isP_iff.1 h; rw [hp] at this; exact this
  subst hc
  have hl := parse_len hp
  rw [← parse_back hp]
  exact place_size hl.1 hl.2
end Go.Proofs.YtaieijbdknfcjaaGreatDoor
