/-
  tree: a step on both trees: what lies where.
-/
import Derived.Test.YthelfbdkbldhjaaGreatDoorTRefE
import Derived.Test.YthelfbdkbldhjaaGreatDoorTUntouched
import Derived.Test.YthelfbdkbldhjaaGreatDoorTRefM
namespace Go.Proofs.YthelfbdkbldhjaaGreatDoor
open Go.RowKit Go.Maps Go.WideShapes
set_option linter.unusedVariables false
set_option linter.unusedSimpArgs false
theorem results_tmp_cell_tmp {P : Program} {fn : Func} {p q r : Tmp} {ty : TypeId} (h : fn.results = #[.tmp r, .cell p ty, .tmp q]) (tmps : Array Value) (w : World) (g : Nat) (t : TypeId) (cs : Array Value) (fr : Nat × Nat) (d : TypeDesc) (u v : Value)
    (hr : tmps.getD r undef = u) (hp : tmps.getD p undef = .pointer (some ⟨g, 0, none⟩)) (hq : tmps.getD q undef = v) (hg : w.heap[g]? = some (.cells cs t fr))
    (hu : P.underlying ty = some d) (hd : (match d with | .struct _ | .array _ _ => true | _ => false) = true) (hi : (P.info? ty).map (·.size) = some cs.size) :
    (results fn tmps).run P w = .ok (.tuple #[u, .agg cs, v]) w := by
  have hp' : tmps[p]?.getD undef = .pointer (some ⟨g, 0, none⟩) := by simpa using hp
  have hq' : tmps[q]?.getD undef = v := by simpa using hq
  have hr' : tmps[r]?.getD undef = u := by simpa using hr
  simp [results, h, hp', hq', hr', asAddr, run_loadVar_row w g t ty cs fr d hg hu hd hi]

abbrev stCs (k s st : Int) (a : Option Addr) (n c : Nat) (pl : ByteArray) (nn : Int) : Array Value := #[.int .i64 k, .int .i64 s, .int .i64 st, .slice a n c, .string pl, .int .i64 nn]
abbrev pW0 (w : World) (v : Value) (cs : Array Value) : World := ((w.alloc (.cells #[v] 27)).alloc (.cells cs 34)).alloc (.cells #[.slice none 0 0] 27)
structure PlI (w W : World) (v : Value) (cs : Array Value) : Prop where
  low : Below w.heap.size w W
  tr : W.heap[w.heap.size]? = some (.cells #[v] 27 (0, 0))
  sp : W.heap[w.heap.size + 1]? = some (.cells cs 34 (0, 0))
  rs : W.heap[w.heap.size + 1 + 1]? = some (.cells #[.slice none 0 0] 27 (0, 0))
theorem plI_start (w : World) (v : Value) (cs : Array Value) : PlI w (pW0 w v cs) v cs :=
  ⟨(((Below.refl _ _).alloc (Nat.le_refl _) _).alloc (by simp) _).alloc (by simp; omega) _, heap_alloc_old (heap_alloc_old (heap_alloc_new _ _)), heap_alloc_old (heap_alloc_new' (by simp)), heap_alloc_new' (by simp)⟩
theorem PlI.below {w W W' : World} {v : Value} {cs : Array Value} (h : PlI w W v cs) (hb : Below W.heap.size W W') : PlI w W' v cs :=
  ⟨trans2 h.low hb, kept_block hb h.tr, kept_block hb h.sp, kept_block hb h.rs⟩
theorem DeskAt.below {w w' : World} {base db : Nat} {dv : Value} (h : DeskAt w base db dv) (hb : Below w.heap.size w w') : DeskAt w' base db dv := by
  obtain ⟨h1, h2, n, xs, h3⟩ := h
  exact ⟨kept_block hb h1, h2, n, xs, owns_chg h3 (Chg.of_below hb (fun _ => False)) (fun _ _ => id)⟩
theorem TrAt.chg {w w' : World} {B tb q : Nat} {T : List Nd} {S : Nat → Prop} (h : TrAt w B tb q T) (hc : Chg w w' S) (hs : ∀ k, S k → (∃ cur t, t ≠ 49 ∧ w.heap[k]? = some (.cells cur t (0, 0))) ∨ (k ≠ tb ∧ ∃ cur t, w.heap[k]? = some (.cells cur t (0, 0)))) : TrAt w' B tb q T := by
  obtain ⟨mb, n, D, h1, h2, h3⟩ := h.at'
  refine ⟨⟨mb, n, D, ⟨kept_chg hc h1.box (fun e => ?_), map_chg h1.map hc (fun e => ?_), h1.lo, h1.lom⟩, h2, h3⟩, h.snd⟩
  · rcases hs tb e with ⟨cur, t, ht, hk⟩ | ⟨hne, _⟩
    · rw [h1.box] at hk
      simp at hk
      exact ht hk.2.symm
    · exact hne rfl
  · obtain ⟨es, clock, hb, _⟩ := h1.map
    rcases hs mb e with ⟨cur, t, ht, hk⟩ | ⟨hne, cur, t, hk⟩
    · rw [hb] at hk
      cases hk
    · rw [hb] at hk
      cases hk
theorem TrAt.base {w : World} {B B' tb q : Nat} {T : List Nd} (h : TrAt w B tb q T) (hB : B' ≤ B) : TrAt w B' tb q T := by
  obtain ⟨mb, n, D, h1, h2, h3⟩ := h.at'
  exact ⟨⟨mb, n, D, ⟨h1.box, h1.map, Nat.le_trans hB h1.lo, Nat.le_trans hB h1.lom⟩, h2, h3⟩, h.snd⟩
theorem Chg.trans' {w w1 w2 : World} {S T : Nat → Prop} (h : Chg w w1 S) (k : Chg w1 w2 T) (hT : ∀ j, T j → S j ∨ w.heap.size ≤ j) : Chg w w2 S :=
  ⟨k.os.trans h.os, k.tape.trans h.tape, k.output.trans h.output, Nat.le_trans h.size k.size, fun j hj hn => by
    rw [k.block j (Nat.lt_of_lt_of_le hj h.size) (fun e => (hT j e).elim hn (fun h' => by omega)), h.block j hj hn]⟩
theorem DeskAt.chg {w w' : World} {base db : Nat} {dv : Value} {S : Nat → Prop} (h : DeskAt w base db dv) (hc : Chg w w' S) (hs : ∀ k, S k → ∃ cur t, t ≠ 32 ∧ t ≠ 63 ∧ w.heap[k]? = some (.cells cur t (0, 0))) : DeskAt w' base db dv := by
  obtain ⟨h1, h2, n, xs, h3⟩ := h
  refine ⟨kept_chg hc h1 (fun e => ?_), h2, n, xs, owns_chg h3 hc (fun k hk e => ?_)⟩
  · obtain ⟨cur, t, ht, _, hk⟩ := hs db e
    rw [h1] at hk
    simp at hk
    exact ht hk.2.symm
  · obtain ⟨cur, t, _, ht, hk'⟩ := hs k e
    obtain ⟨cur', h9⟩ := owns_kind h3 hk
    rw [h9] at hk'
    simp at hk'
    exact ht hk'.2.symm
/-- What a step has laid, while old blocks may turn. -/
structure PlC (w W : World) (v : Value) (cs : Array Value) (S : Nat → Prop) : Prop where
  chg : Chg w W S
  tr : W.heap[w.heap.size]? = some (.cells #[v] 27 (0, 0))
  sp : W.heap[w.heap.size + 1]? = some (.cells cs 34 (0, 0))
  rs : W.heap[w.heap.size + 1 + 1]? = some (.cells #[.slice none 0 0] 27 (0, 0))
theorem PlI.c {w W : World} {v : Value} {cs : Array Value} (h : PlI w W v cs) (S : Nat → Prop) : PlC w W v cs S := ⟨Chg.of_below h.low S, h.tr, h.sp, h.rs⟩
theorem PlC.below {w W W' : World} {v : Value} {cs : Array Value} {S : Nat → Prop} (h : PlC w W v cs S) (hb : Below W.heap.size W W') : PlC w W' v cs S :=
  ⟨h.chg.trans (Chg.of_below hb S), kept_block hb h.tr, kept_block hb h.sp, kept_block hb h.rs⟩
theorem PlC.turn {w W W' : World} {v : Value} {cs : Array Value} {S T : Nat → Prop} (h : PlC w W v cs S) (hc : Chg W W' T) (hT : ∀ k, T k → S k ∨ w.heap.size ≤ k) (h0 : ¬ T w.heap.size) (h1 : ¬ T (w.heap.size + 1)) (h2 : ¬ T (w.heap.size + 1 + 1)) : PlC w W' v cs S :=
  ⟨h.chg.trans' hc hT, kept_chg hc h.tr h0, kept_chg hc h.sp h1, kept_chg hc h.rs h2⟩
/-- Both trees and the desk, between two steps. -/
structure Sit (W w : World) (db tb q : Nat) (dv : Value) (a : Option Addr) (T : List Nd) : Prop where
  low : Below W.heap.size W w
  desk : DeskAt w W.heap.size db dv
  tr : TrAt w W.heap.size tb q T
  nds : NdsAt w a T
  rng : Rng T
theorem Sit.below {W w w' : World} {db tb q : Nat} {dv : Value} {a : Option Addr} {T : List Nd} (h : Sit W w db tb q dv a T) (hb : Below w.heap.size w w') : Sit W w' db tb q dv a T :=
  ⟨trans2 h.low hb, h.desk.below hb, h.tr.below hb, h.nds.below hb, h.rng⟩
theorem Sit.chg {W w w' : World} {db tb q : Nat} {dv : Value} {a : Option Addr} {T : List Nd} {S : Nat → Prop} (h : Sit W w db tb q dv a T) (hc : Chg w w' S) (hs : ∀ k, S k → W.heap.size ≤ k ∧ ∃ cur t, t ≠ 49 ∧ t ≠ 32 ∧ t ≠ 63 ∧ t ≠ 50 ∧ w.heap[k]? = some (.cells cur t (0, 0))) : Sit W w' db tb q dv a T :=
  ⟨h.low.trans (hc.below h.low.size (fun k _ e => (hs k e).1)),
   h.desk.chg hc (fun k e => by obtain ⟨_, cur, t, h1, h2, h3, h4, h5⟩ := hs k e; exact ⟨cur, t, h2, h3, h5⟩),
   h.tr.chg hc (fun k e => by obtain ⟨_, cur, t, h1, h2, h3, h4, h5⟩ := hs k e; exact .inl ⟨cur, t, h1, h5⟩),
   h.nds.chg hc (fun k e cur' hk => by
     obtain ⟨_, cur, t, h1, h2, h3, h4, h5⟩ := hs k e
     rw [hk] at h5
     simp at h5
     exact h4 h5.2.symm), h.rng⟩
/-- What a step leaves. -/
def PlE (W w : World) (db tb q : Nat) (dv : Value) (T : List Nd) (e : Ending) (w' : World) : Prop :=
  ∃ tb' q' dv' a' c', e = .returned (.tuple #[.pointer (some ⟨tb', 0, none⟩), rtV a' T.length c', .bool true]) ∧ Sit W w' db tb' q' dv' a' T ∧ (q' ≤ q + 1 ∨ q' ≤ 8) ∧ Chg w w' (fun k => k = tb ∨ k = db ∨ dv.ownBlock = some k) ∧ (tb' = tb ∨ w.heap.size ≤ tb')
theorem PlE.low {W w w' : World} {db tb q : Nat} {dv : Value} {a : Option Addr} {T : List Nd} {N : Nat} (h : Sit W w db tb q dv a T) (c : Nat) (hN : T.length = N) (hb : Below w.heap.size w w') : PlE W w db tb q dv T (.returned (.tuple #[.pointer (some ⟨tb, 0, none⟩), rtV a N c, .bool true])) w' :=
  ⟨tb, q, dv, a, c, by rw [hN], h.below hb, .inl (by omega), Chg.of_below hb _, .inl rfl⟩
end Go.Proofs.YthelfbdkbldhjaaGreatDoor
namespace Go.Proofs.YthelfbdkbldhjaaGreatDoor
open Go.RowKit Go.Maps Go.WideShapes
set_option linter.unusedVariables false
set_option linter.unusedSimpArgs false
attribute [local go_sem ↓] Go.wp_at_zero Go.wp_at_succ

set_option maxHeartbeats 8000000 in
set_option maxRecDepth 100000 in
theorem refPlay_bad (a : Option Addr) (c n : Nat) (T : List Nd) (s st : Int) (oa : Option Addr) (oc : Nat) (w : World) (h : NdsAt w a T) (hne : T ≠ []) (hm : mayC s st n ≠ 0) :
    Calls Tryz.prog 17 #[rtV a T.length c, .int .i64 s, .int .i64 st, .slice oa n oc] w (PlayD w st ⟨mayC s st n, 0, T, [], []⟩) := by
  have H : Hid (NdsAt w a T) := h
  have hl : T.length ≠ 0 := fun e => hne (List.length_eq_zero_iff.1 e)
  obtain ⟨N, hN⟩ : ∃ N, T.length = N := ⟨_, rfl⟩
  have HN : Hid (T.length = N) := hN
  rw [hN] at hl ⊢
  have hn0 : ((N : Int) == 0) = false := by have : ¬ (N : Int) = 0 := by omega
                                            simpa using this
  clear h hne hN hl
  have hcase : (4 < n ∧ mayC s st n = 2) ∨ (¬ 4 < n ∧ mayC s st n = 3 ∧ (s < 0 ∨ (¬ s < 0 ∧ 2147483647 < s) ∨ (¬ s < 0 ∧ ¬ 2147483647 < s ∧ st < 1) ∨ (¬ s < 0 ∧ ¬ 2147483647 < s ∧ ¬ st < 1 ∧ 2147483647 < st))) ∨ (n = 0 ∧ mayC s st n = 48 ∧ ¬ s < 0 ∧ ¬ 2147483647 < s ∧ ¬ st < 1 ∧ ¬ 2147483647 < st) := by
    unfold mayC at hm ⊢
    by_cases h4 : 4 < n
    · exact .inl ⟨h4, if_pos h4⟩
    · by_cases hb : s < 0 ∨ 2147483647 < s ∨ st < 1 ∨ 2147483647 < st
      · exact .inr (.inl ⟨h4, by rw [if_neg h4, if_pos hb], by omega⟩)
      · by_cases h0 : n = 0
        · exact .inr (.inr ⟨h0, by rw [if_neg h4, if_neg hb, if_pos h0], by omega, by omega, by omega, by omega⟩)
        · rw [if_neg h4, if_neg hb, if_neg h0] at hm
          exact absurd rfl hm
  clear hm
  obtain ⟨code, hcode⟩ : ∃ code, mayC s st n = code := ⟨_, rfl⟩
  rw [hcode] at hcase ⊢
  clear hcode
  go_enter Tryz.func17, Tryz.ntmps17
  go_upto_region 1 with fail
  obtain ⟨w1, hw1⟩ : ∃ y, ((w.alloc (.cells #[.slice a N c] 27)).alloc (.cells #[.slice none 0 0] 27)).alloc (.cells #[.int .i64 0, .int .i64 0, .int .i64 0, .slice none 0 0] 54) = y := ⟨_, rfl⟩
  obtain ⟨tb, htb⟩ : ∃ y, w.heap.size = y := ⟨_, rfl⟩
  have HB1 : Hid (Below w.heap.size w w1) := by rw [← hw1]; exact (((Below.refl _ _).alloc (Nat.le_refl _) _).alloc (by simp) _).alloc (by simp; omega) _
  have HX1 : Hid (w1.heap[tb]? = some (.cells #[.slice a N c] 27 (0, 0))) := by rw [← hw1, ← htb]; exact heap_alloc_old (heap_alloc_old (heap_alloc_new _ _))
  have HY1 : Hid (w1.heap[tb + 1]? = some (.cells #[.slice none 0 0] 27 (0, 0))) := by rw [← hw1, ← htb]; exact heap_alloc_old (heap_alloc_new' (by simp))
  have HZ1 : Hid (w1.heap[tb + 1 + 1]? = some (.cells #[.int .i64 0, .int .i64 0, .int .i64 0, .slice none 0 0] 54 (0, 0))) := by rw [← hw1, ← htb]; exact heap_alloc_new' (by simp)
  have HTB : Hid (w.heap.size = tb) := htb
  rw [hw1, htb]
  clear hw1 htb
  have t0 := cells_1 HX1.out
  have y0 := cells_1 HY1.out
  have yf := free_1 HY1.out
  obtain ⟨z0, z1, z2, z3⟩ := cells_4 HZ1.out
  have zf := free_4 HZ1.out
  rcases hcase with ⟨h4, rfl⟩ | ⟨h4, rfl, c1 | ⟨c1, c2⟩ | ⟨c1, c2, c3⟩ | ⟨c1, c2, c3, c4⟩⟩ | ⟨rfl, rfl, c1, c2, c3, c4⟩
  · have q : (4 : Int) < (n : Int) := by omega
    go_wp2_with fail
    exact bodyPost_ret (results_cct rfl _ _ (tb + 1) (tb + 1 + 1) 27 54 #[.slice a N c] #[.int .i64 st, .int .i64 2, .int .i64 0, .slice none 0 0] (0, 0) (0, 0) _ _ (.slice none 0 0) rfl rfl rfl (fillO_4 (fill_1 HY1.out) (by omega)) (fill_4 (other_blk HZ1.out (by omega))) Tryz.underlying27 rfl (by kernel_rfl) Tryz.underlying54 rfl (by kernel_rfl)) rfl (PlayD.no HN.out c 2 H.out (fillB_4 (HB1.out.setCell (by rw [HTB.out]; show tb ≤ tb + 1; omega) _) (by rw [HTB.out]; omega)))
  · have q : ¬ (4 : Int) < (n : Int) := by omega
    go_wp2_with fail
    exact bodyPost_ret (results_cct rfl _ _ (tb + 1) (tb + 1 + 1) 27 54 #[.slice a N c] #[.int .i64 st, .int .i64 3, .int .i64 0, .slice none 0 0] (0, 0) (0, 0) _ _ (.slice none 0 0) rfl rfl rfl (fillO_4 (fill_1 HY1.out) (by omega)) (fill_4 (other_blk HZ1.out (by omega))) Tryz.underlying27 rfl (by kernel_rfl) Tryz.underlying54 rfl (by kernel_rfl)) rfl (PlayD.no HN.out c 3 H.out (fillB_4 (HB1.out.setCell (by rw [HTB.out]; show tb ≤ tb + 1; omega) _) (by rw [HTB.out]; omega)))
  · have q : ¬ (4 : Int) < (n : Int) := by omega
    go_wp2_with fail
    exact bodyPost_ret (results_cct rfl _ _ (tb + 1) (tb + 1 + 1) 27 54 #[.slice a N c] #[.int .i64 st, .int .i64 3, .int .i64 0, .slice none 0 0] (0, 0) (0, 0) _ _ (.slice none 0 0) rfl rfl rfl (fillO_4 (fill_1 HY1.out) (by omega)) (fill_4 (other_blk HZ1.out (by omega))) Tryz.underlying27 rfl (by kernel_rfl) Tryz.underlying54 rfl (by kernel_rfl)) rfl (PlayD.no HN.out c 3 H.out (fillB_4 (HB1.out.setCell (by rw [HTB.out]; show tb ≤ tb + 1; omega) _) (by rw [HTB.out]; omega)))
  · have q : ¬ (4 : Int) < (n : Int) := by omega
    go_wp2_with fail
    exact bodyPost_ret (results_cct rfl _ _ (tb + 1) (tb + 1 + 1) 27 54 #[.slice a N c] #[.int .i64 st, .int .i64 3, .int .i64 0, .slice none 0 0] (0, 0) (0, 0) _ _ (.slice none 0 0) rfl rfl rfl (fillO_4 (fill_1 HY1.out) (by omega)) (fill_4 (other_blk HZ1.out (by omega))) Tryz.underlying27 rfl (by kernel_rfl) Tryz.underlying54 rfl (by kernel_rfl)) rfl (PlayD.no HN.out c 3 H.out (fillB_4 (HB1.out.setCell (by rw [HTB.out]; show tb ≤ tb + 1; omega) _) (by rw [HTB.out]; omega)))
  · have q : ¬ (4 : Int) < (n : Int) := by omega
    go_wp2_with fail
    exact bodyPost_ret (results_cct rfl _ _ (tb + 1) (tb + 1 + 1) 27 54 #[.slice a N c] #[.int .i64 st, .int .i64 3, .int .i64 0, .slice none 0 0] (0, 0) (0, 0) _ _ (.slice none 0 0) rfl rfl rfl (fillO_4 (fill_1 HY1.out) (by omega)) (fill_4 (other_blk HZ1.out (by omega))) Tryz.underlying27 rfl (by kernel_rfl) Tryz.underlying54 rfl (by kernel_rfl)) rfl (PlayD.no HN.out c 3 H.out (fillB_4 (HB1.out.setCell (by rw [HTB.out]; show tb ≤ tb + 1; omega) _) (by rw [HTB.out]; omega)))
  · go_wp2_with fail
    exact bodyPost_ret (results_cct rfl _ _ (tb + 1) (tb + 1 + 1) 27 54 #[.slice a N c] #[.int .i64 st, .int .i64 48, .int .i64 0, .slice none 0 0] (0, 0) (0, 0) _ _ (.slice none 0 0) rfl rfl rfl (fillO_4 (fill_1 HY1.out) (by omega)) (fill_4 (other_blk HZ1.out (by omega))) Tryz.underlying27 rfl (by kernel_rfl) Tryz.underlying54 rfl (by kernel_rfl)) rfl (PlayD.no HN.out c 48 H.out (fillB_4 (HB1.out.setCell (by rw [HTB.out]; show tb ≤ tb + 1; omega) _) (by rw [HTB.out]; omega)))
end Go.Proofs.YthelfbdkbldhjaaGreatDoor
namespace Go.Proofs.YthelfbdkbldhjaaGreatDoor
open Go.RowKit Go.Maps Go.WideShapes
set_option linter.unusedVariables false
set_option linter.unusedSimpArgs false
attribute [local go_sem ↓] Go.wp_at_zero Go.wp_at_succ

theorem slice_of' {w : World} {B e s n : Nat} {v : Value} {xs : List Value} (h : w.ownsRow B e s v n xs) : ∃ a c, v = .slice a n c := by
  rcases h.2 with ⟨rfl, h0⟩ | ⟨g, cap, cur, rfl, _⟩
  · exact ⟨none, 0, by rw [h0]⟩
  · exact ⟨_, _, rfl⟩
theorem nds_row' {w : World} {B n c : Nat} {a : Option Addr} {T : List Nd} (h : w.ownsRow B 50 7 (.slice a n c) n (T.flatMap Nd.cs)) : NdsAt w a T := by
  have h' := h
  rcases h.2 with ⟨e, h0⟩ | ⟨g, cap, cur, e, _⟩
  · have hl := h.1
    intro i x hx
    exfalso
    have : T = [] := by
      cases T with
      | nil => rfl
      | cons y r =>
        subst h0
        rw [List.flatMap_cons] at hl
        simp at hl
    rw [this] at hx
    simp at hx
  · obtain ⟨rfl, _, rfl⟩ : a = some ⟨g, 0, none⟩ ∧ n = n ∧ c = cap := by simpa using e
    exact nds_of_row h'
theorem endC_take {T : List Nd} {s : Int} {q : Nat} {x : Nd} (hx : T[q]? = some x) : endT (T.take (q + 1)) s = endT (T.take q) s ++ (if x.o = s then [] else [x]) := by
  unfold endT
  rw [List.take_add_one, hx, List.filter_append]
  by_cases h : x.o = s <;> simp [h]
set_option maxHeartbeats 8000000 in
set_option maxRecDepth 100000 in
theorem refEnd_any (a : Option Addr) (c : Nat) (T : List Nd) (s : Int) (w : World) (h : NdsAt w a T) (hT : T.length ≤ 64) (hs : ¬ s < 1) :
    Calls Tryz.prog 23 #[rtV a T.length c, .int .i64 s] w fun e w' => ∃ la lc ca cc, e = .returned (.tuple #[rtV la (endT T s).length lc, .slice ca (endC T s).length cc]) ∧ NdsAt w' la (endT T s) ∧ w'.ownsRow w.heap.size 50 7 (.slice la (endT T s).length lc) (endT T s).length ((endT T s).flatMap Nd.cs) ∧ w'.ownsRow w.heap.size 85 4 (.slice ca (endC T s).length cc) (endC T s).length (chCs (endC T s)) ∧ Below w.heap.size w w' := by
  obtain ⟨i0, hi0, hz0, hz1, hz2⟩ := info_parts Tryz.infoRF
  obtain ⟨j0, hj0, hy0, hy1, hy2⟩ := info_parts Tryz.infoC
  have H : Hid (NdsAt w a T) := h
  obtain ⟨N, hN⟩ : ∃ N, T.length = N := ⟨_, rfl⟩
  have HN : Hid (T.length = N) := hN
  rw [hN] at hT ⊢
  clear h hN
  go_enter Tryz.func23, Tryz.ntmps23
  go_upto_region 1 with fail
  obtain ⟨w1, hw1⟩ : ∃ y, (w.alloc (.cells #[.slice a N c] 27)).alloc (.cells #[.slice none 0 0] 27) = y := ⟨_, rfl⟩
  obtain ⟨tb, htb⟩ : ∃ y, w.heap.size = y := ⟨_, rfl⟩
  have HB1 : Hid (Below w.heap.size w w1) := by rw [← hw1]; exact ((Below.refl _ _).alloc (Nat.le_refl _) _).alloc (by simp) _
  have HX1 : Hid (w1.heap[tb]? = some (.cells #[.slice a N c] 27 (0, 0))) := by rw [← hw1, ← htb]; exact heap_alloc2_old _ _ _
  have HY1 : Hid (w1.heap[tb + 1]? = some (.cells #[.slice none 0 0] 27 (0, 0))) := by rw [← hw1, ← htb]; exact heap_alloc2_new _ _ _
  have HTB : Hid (w.heap.size = tb) := htb
  rw [hw1, htb]
  clear hw1 htb
  go_wp2_with fail
  go_loopw [6, 7, 8] (fun lv cv i wr => ∃ q : Nat, i = .int .i64 q ∧ q ≤ N ∧ Hid (wr.ownsRow w1.heap.size 50 7 lv (endT (T.take q) s).length ((endT (T.take q) s).flatMap Nd.cs)) ∧ Hid (wr.ownsRow w1.heap.size 85 4 cv (endC (T.take q) s).length (chCs (endC (T.take q) s))) ∧ Hid (Below w1.heap.size w1 wr)) (fun _ _ i _ => N - (intOf i).toNat)
  case atStart => exact ⟨0, rfl, Nat.zero_le _, World.ownsRow_nil _ _ _ _, World.ownsRow_nil _ _ _ _, Below.refl _ _⟩
  case round =>
    obtain ⟨q, rfl, hq, HO, HC, HB⟩ := hrel
    have HXr : Hid _ := kept_block HB.out HX1.out
    have t0 := cells_1 HXr.out
    have htl : tb < wr.heap.size := (Array.getElem?_eq_some_iff.1 HXr.out).1
    by_cases hlt : q < N
    · have hlt' : (q : Int) < (N : Int) := by omega
      obtain ⟨x, hx⟩ : ∃ x, T[q]? = some x := ⟨T[q]'(by rw [HN.out]; exact hlt), List.getElem?_eq_getElem _⟩
      obtain ⟨gb, gf, rfl⟩ := H.out.some hx
      obtain ⟨hgl, x0, x1, x2, x3, x4, x5, x6⟩ := (H.out.below (trans2 HB1.out HB.out)).cells hx
      have HT1 : Hid (endT (T.take (q + 1)) s = endT (T.take q) s ++ (if x.o = s then [] else [x])) := endC_take hx
      have HC1 : Hid (endC (T.take (q + 1)) s = endC (T.take q) s ++ (if x.o = s then [⟨3, x.p, ⟨#[]⟩, x.v⟩] else [])) := endC_snoc hx
      have HL1 : Hid ((endT (T.take q) s).length ≤ 64) := by
        show _ ≤ _
        refine Nat.le_trans (List.length_filter_le _ _) ?_
        rw [List.length_take]
        omega
      have HL2 : Hid ((endC (T.take q) s).length ≤ 64) := by
        show _ ≤ _
        unfold endC
        rw [List.length_map]
        refine Nat.le_trans (List.length_filter_le _ _) ?_
        rw [List.length_take]
        omega
      obtain ⟨U, hU⟩ : ∃ U, endT (T.take q) s = U := ⟨_, rfl⟩
      obtain ⟨C, hC⟩ : ∃ C, endC (T.take q) s = C := ⟨_, rfl⟩
      rw [hU] at HO HT1 HL1
      rw [hC] at HC HC1 HL2
      have hs1 := HB.out.size
      clear hx hU hC
      go_upto_region 9 with fail
      obtain ⟨w2, hw2⟩ : ∃ y, wr.alloc (.cells #[.string x.p, .string x.d, .int .i64 x.v, .int .i64 x.m, .int .i64 x.c, .int .i64 x.o, .int .i64 x.k] 50) = y := ⟨_, rfl⟩
      obtain ⟨nb, hnb⟩ : ∃ y, wr.heap.size = y := ⟨_, rfl⟩
      have hb2 : Below wr.heap.size wr w2 := by rw [← hw2]; exact (Below.refl _ _).alloc (Nat.le_refl _) _
      have HX2 : Hid (w2.heap[nb]? = some (.cells #[.string x.p, .string x.d, .int .i64 x.v, .int .i64 x.m, .int .i64 x.c, .int .i64 x.o, .int .i64 x.k] 50 (0, 0))) := by rw [← hw2, ← hnb]; exact heap_alloc_new _ _
      have HO2 : Hid (w2.ownsRow w1.heap.size 50 7 u6 U.length (U.flatMap Nd.cs)) := owns_chg HO.out (Chg.of_below hb2 (fun _ => False)) (fun _ _ => id)
      have HC2 : Hid (w2.ownsRow w1.heap.size 85 4 u7 C.length (chCs C)) := owns_chg HC.out (Chg.of_below hb2 (fun _ => False)) (fun _ _ => id)
      have HB2 : Hid (Below w1.heap.size w1 w2) := trans2 HB.out hb2
      have hs2 := HB2.out.size
      rw [hw2, hnb]
      clear hw2 hnb hb2 x0 x1 x2 x3 x4 x5 x6 t0
      obtain ⟨n0, n1, n2, n3, n4, n5, n6⟩ := cells_7 HX2.out
      by_cases ho : x.o = s
      · have eo : (x.o == s) = true := by simpa using ho
        have HO1 : Hid (x.o = s) := ho
        clear ho
        go_wp2_with (first
          | (at_builtin; refine wpList_append_lies _ rfl _ _ _ rfl w1.heap.size 85 j0 _ 4 48 Tryz.underlying55 hj0 hy0 hy1 hy2 rfl (by omega) u7 C.length (chCs C) rfl (World.ownsRow.alloc HC2.out _) ⟨w2.heap.size, 0, none⟩ 1 1 [.int .i64 3, .string x.p, .string ⟨#[]⟩, .int .i64 x.v] rfl rfl (World.news_of_block (cs := #[.int .i64 3, .string x.p, .string ⟨#[]⟩, .int .i64 x.v]) (t := 85) (fr := (0, 0)) (heap_alloc_new w2 _)) (by simp [Value.oneCell']) (by have := HL2.out; omega) (by have := HL2.out; unfold maxLen; omega) (by have := HL2.out; omega) (by simp; omega) (w2.heap.size + 1) (by simp) ?_
             intro g4 cap4 w4 hown4 hgrow4 hat4 hlt4
             have HN4 : Hid (w4.ownsRow w1.heap.size 85 4 (.slice (some ⟨g4, 0, none⟩) (C.length + 1) cap4) (C.length + 1) (chCs C ++ [.int .i64 3, .string x.p, .string ⟨#[]⟩, .int .i64 x.v])) := hown4
             have HB4 : Hid (Below w1.heap.size w1 w4) := HB2.out.trans (((Below.refl _ _).alloc (by omega) _).grown hgrow4 (by simp; omega) (fun j hj => (HC2.out.lt j hj).1))
             have HO4 : Hid (w4.ownsRow w1.heap.size 50 7 u6 U.length (U.flatMap Nd.cs)) := owns_chg HO2.out ((Chg.alloc _ _ _).trans (Chg.grown hgrow4)) (fun k hk e => by
               obtain ⟨cur, h8⟩ := owns_kind HO2.out hk
               obtain ⟨cur', h9⟩ := owns_kind HC2.out e
               rw [h8] at h9
               simp at h9)
             clear hown4 hgrow4 hat4 hlt4)
          | fail)
        go_roundw
        case rel =>
          refine ⟨q + 1, by go_num, by omega, ?_, ?_, HB4.out⟩
          · show World.ownsRow _ _ _ _ _ _ _
            rw [HT1.out, if_pos HO1.out, List.append_nil]
            exact HO4.out
          · show World.ownsRow _ _ _ _ _ _ _
            rw [HC1.out, if_pos HO1.out, List.length_append]
            have h9 := HN4.out
            simpa [chCs] using h9
        case measure => simp [intOf]; omega
      · have eo : (x.o == s) = false := by simpa using ho
        have HO1 : Hid (¬ x.o = s) := ho
        clear ho
        go_wp2_with (first
          | (at_builtin; refine wpList_append_lies _ rfl _ _ _ rfl w1.heap.size 50 i0 _ 7 72 Tryz.underlying25 hi0 hz0 hz1 hz2 rfl (by omega) u6 U.length (U.flatMap Nd.cs) rfl (World.ownsRow.alloc HO2.out _) ⟨w2.heap.size, 0, none⟩ 1 1 [.string x.p, .string x.d, .int .i64 x.v, .int .i64 x.m, .int .i64 x.c, .int .i64 x.o, .int .i64 x.k] rfl rfl (World.news_of_block (cs := #[.string x.p, .string x.d, .int .i64 x.v, .int .i64 x.m, .int .i64 x.c, .int .i64 x.o, .int .i64 x.k]) (t := 50) (fr := (0, 0)) (heap_alloc_new w2 _)) (by simp [Value.oneCell']) (by have := HL1.out; omega) (by have := HL1.out; unfold maxLen; omega) (by have := HL1.out; omega) (by simp; omega) (w2.heap.size + 1) (by simp) ?_
             intro g4 cap4 w4 hown4 hgrow4 hat4 hlt4
             have HN4 : Hid (w4.ownsRow w1.heap.size 50 7 (.slice (some ⟨g4, 0, none⟩) (U.length + 1) cap4) (U.length + 1) (U.flatMap Nd.cs ++ [.string x.p, .string x.d, .int .i64 x.v, .int .i64 x.m, .int .i64 x.c, .int .i64 x.o, .int .i64 x.k])) := hown4
             have HB4 : Hid (Below w1.heap.size w1 w4) := HB2.out.trans (((Below.refl _ _).alloc (by omega) _).grown hgrow4 (by simp; omega) (fun j hj => (HO2.out.lt j hj).1))
             have HC4 : Hid (w4.ownsRow w1.heap.size 85 4 u7 C.length (chCs C)) := owns_chg HC2.out ((Chg.alloc _ _ _).trans (Chg.grown hgrow4)) (fun k hk e => by
               obtain ⟨cur, h8⟩ := owns_kind HC2.out hk
               obtain ⟨cur', h9⟩ := owns_kind HO2.out e
               rw [h8] at h9
               simp at h9)
             clear hown4 hgrow4 hat4 hlt4)
          | fail)
        go_roundw
        case rel =>
          refine ⟨q + 1, by go_num, by omega, ?_, ?_, HB4.out⟩
          · show World.ownsRow _ _ _ _ _ _ _
            rw [HT1.out, if_neg HO1.out, List.flatMap_append, List.length_append]
            have h9 := HN4.out
            simpa using h9
          · show World.ownsRow _ _ _ _ _ _ _
            rw [HC1.out, if_neg HO1.out, List.append_nil]
            exact HC4.out
        case measure => simp [intOf]; omega
    · obtain rfl : q = N := by omega
      have hO := HO.out
      have hC := HC.out
      rw [List.take_of_length_le (by rw [HN.out]; exact Nat.le_refl _)] at hO hC
      obtain ⟨la, lc, rfl⟩ := slice_of' hO
      obtain ⟨ca, cc, rfl⟩ := slice_of' hC
      have HYr : Hid _ := kept_block HB.out HY1.out
      have hyf := free_1 HYr.out
      have y0 := cells_1 HYr.out
      have HOF : Hid (wr.ownsRow w1.heap.size 50 7 (.slice la (endT T s).length lc) (endT T s).length ((endT T s).flatMap Nd.cs)) := hO
      have HCF : Hid (wr.ownsRow w1.heap.size 85 4 (.slice ca (endC T s).length cc) (endC T s).length (chCs (endC T s))) := hC
      have hyl : tb + 1 < w1.heap.size := (Array.getElem?_eq_some_iff.1 HY1.out).1
      obtain ⟨LN, hLN⟩ : ∃ n, (endT T s).length = n := ⟨_, rfl⟩
      obtain ⟨CN, hCN⟩ : ∃ n, (endC T s).length = n := ⟨_, rfl⟩
      have HLN : Hid ((endT T s).length = LN) := hLN
      have HCN : Hid ((endC T s).length = CN) := hCN
      rw [hLN] at HOF ⊢
      rw [hCN] at HCF ⊢
      clear hO hC hLN hCN
      go_wp2_with fail
      have hset : ∀ {B t sz m : Nat} {v : Value} {xs : List Value}, w1.heap.size ≤ B → wr.ownsRow B t sz v m xs → (wr.setCell ⟨tb + 1, 0, none⟩ (.slice la LN lc)).ownsRow B t sz v m xs := fun hB hr => owns_chg hr (Chg.set _ _ _) (fun k hk e => by
        have := (hr.lt k hk).1
        have e' : k = tb + 1 := e
        omega)
      have hOo := hset (Nat.le_refl _) HOF.out
      have hCo := hset (Nat.le_refl _) HCF.out
      have base : ∀ {W : World} {t sz m : Nat} {v : Value} {xs : List Value}, W.ownsRow w1.heap.size t sz v m xs → W.ownsRow w.heap.size t sz v m xs := fun h9 => ⟨h9.1, h9.2.imp id (fun ⟨g, cap, cur, h1, h2, r⟩ => ⟨g, cap, cur, h1, Nat.le_trans HB1.out.size h2, r⟩)⟩
      exact bodyPost_ret (results_cell_tmp rfl _ _ (tb + 1) 27 _ (0, 0) _ (.slice ca CN cc) rfl rfl (fill_1 HYr.out) Tryz.underlying27 rfl (by kernel_rfl)) rfl ⟨la, lc, ca, cc, by rw [HLN.out, HCN.out], nds_row' hOo, by rw [HLN.out]; exact base hOo, by rw [HCN.out]; exact base hCo, (trans2 HB1.out HB.out).setCell (by rw [HTB.out]; show tb ≤ tb + 1; omega) _⟩
end Go.Proofs.YthelfbdkbldhjaaGreatDoor
