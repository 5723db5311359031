/-
  ShotDiffs: the walk.
-/
import Derived.Test.YtkmiemjjedbnaaaDoorDDiffs
import Derived.Test.YtkmiemjjedbnaaaDoorDTurned
namespace Go.Proofs.YtkmiemjjedbnaaaDoor
open Go.RowKit Classical
set_option linter.unusedVariables false
set_option linter.unusedSimpArgs false

theorem ownsLow {w : World} {B B' e s n : Nat} {v : Value} {xs : List Value} (h : w.ownsRow B e s v n xs) (hb : B' ≤ B) : w.ownsRow B' e s v n xs := by
  refine ⟨h.1, ?_⟩
  rcases h.2 with h0 | ⟨g, cap, cur, hv, hB, r⟩
  · exact .inl h0
  · exact .inr ⟨g, cap, cur, hv, Nat.le_trans hb hB, r⟩
theorem turn_ok {l : List SeenT} (h : ∀ s ∈ l, s.p.size ≤ maxLen) : ∀ s ∈ l.map turn, s.p.size ≤ maxLen := fun s hs => by
  obtain ⟨t, ht, rfl⟩ := List.mem_map.1 hs
  exact h t ht
theorem not_good_none : ¬ Good 0 ⟨#[]⟩ 0 [] := fun h => by have := ((cov_self 0 _).1 h.2.1).2.1; omega
theorem turned0_n (base g cap n : Nat) (st : Int) (p : ByteArray) (k : Int) (l : List SeenT) (w : World) (hn : l.length = n) (hr : w.ownsRow base 38 3 (.slice (some ⟨g, 0, none⟩) (n + 1) cap) (n + 1) (seCs l ++ markT.cells)) (hl : n ≤ 1000) :
    Calls Tryd.prog 8 #[.agg (shA st p k (some ⟨g, 0, none⟩) n cap), .int .i64 0] w fun e w' => ∃ a c, e = .returned (.agg (shA st p k a n c)) ∧ Ss w' a (l.map turn) ∧ (a = none → c = 0) ∧ w'.ownsRow base 38 3 (.slice (some ⟨g, 0, none⟩) (n + 1) cap) (n + 1) (seCs (l.map turn) ++ markT.cells) ∧ Chg w w' (fun j => j = g) ∧ (∀ b o, a = some ⟨b, o, none⟩ → w.heap.size ≤ b) := by
  subst hn
  exact turned_new base g cap st p k l w hr hl
/-- What stands while the law is played. -/
structure DI (W w : World) (bc gc cc n bd gd cd m : Nat) (A B C D : Array Value) (la lb : List SeenT) : Prop where
  pa : w.heap[W.heap.size]? = some (.cells A 24 (0, 0))
  pb : w.heap[W.heap.size + 1]? = some (.cells B 24 (0, 0))
  pc : w.heap[bc]? = some (.cells C 24 (0, 0))
  pd : w.heap[bd]? = some (.cells D 24 (0, 0))
  rc : w.ownsRow W.heap.size 38 3 (.slice (some ⟨gc, 0, none⟩) (n + 1) cc) (n + 1) (seCs la ++ markT.cells)
  rd : w.ownsRow W.heap.size 38 3 (.slice (some ⟨gd, 0, none⟩) (m + 1) cd) (m + 1) (seCs lb ++ markT.cells)
  ne : gc ≠ gd
  low : Below W.heap.size W w
theorem DI.below {W w w' : World} {bc gc cc n bd gd cd m : Nat} {A B C D : Array Value} {la lb : List SeenT} (h : DI W w bc gc cc n bd gd cd m A B C D la lb) (hb : Below w.heap.size w w') : DI W w' bc gc cc n bd gd cd m A B C D la lb := ⟨kept_block hb h.pa, kept_block hb h.pb, kept_block hb h.pc, kept_block hb h.pd, owns_below h.rc hb, owns_below h.rd hb, h.ne, trans2 h.low hb⟩
theorem box_turn {w w' : World} {B n g cap b : Nat} {xs : List Value} {cs : Array Value} (hr : w.ownsRow B 38 3 (.slice (some ⟨g, 0, none⟩) n cap) n xs) (hc : Chg w w' (fun j => j = g)) (h : w.heap[b]? = some (.cells cs 24 (0, 0))) : w'.heap[b]? = some (.cells cs 24 (0, 0)) := by
  obtain ⟨cur, hk⟩ := owns_kind hr rfl
  rw [hc.block _ (lt_of_blk h) (fun e => by rw [e, hk] at h; cases h)]
  exact h
theorem DI.turnD {W w w' : World} {bc gc cc n bd gd cd m : Nat} {A B C D : Array Value} {la lb lb' : List SeenT} (h : DI W w bc gc cc n bd gd cd m A B C D la lb) (hr : w'.ownsRow W.heap.size 38 3 (.slice (some ⟨gd, 0, none⟩) (m + 1) cd) (m + 1) (seCs lb' ++ markT.cells)) (hc : Chg w w' (fun j => j = gd)) : DI W w' bc gc cc n bd gd cd m A B C D la lb' :=
  ⟨box_turn h.rd hc h.pa, box_turn h.rd hc h.pb, box_turn h.rd hc h.pc, box_turn h.rd hc h.pd, owns_same h.rc (fun j hj => hc.block j (h.rc.lt j hj).2 (fun e => h.ne (by cases hj; exact e))), hr, h.ne, h.low.trans (hc.below h.low.size (fun j _ e => by rw [e]; exact (h.rd.lt gd rfl).1))⟩
theorem DI.turnC {W w w' : World} {bc gc cc n bd gd cd m : Nat} {A B C D : Array Value} {la la' lb : List SeenT} (h : DI W w bc gc cc n bd gd cd m A B C D la lb) (hr : w'.ownsRow W.heap.size 38 3 (.slice (some ⟨gc, 0, none⟩) (n + 1) cc) (n + 1) (seCs la' ++ markT.cells)) (hc : Chg w w' (fun j => j = gc)) : DI W w' bc gc cc n bd gd cd m A B C D la' lb :=
  ⟨box_turn h.rc hc h.pa, box_turn h.rc hc h.pb, box_turn h.rc hc h.pc, box_turn h.rc hc h.pd, hr, owns_same h.rd (fun j hj => hc.block j (h.rd.lt j hj).2 (fun e => h.ne (by cases hj; exact e.symm))), h.ne, h.low.trans (hc.below h.low.size (fun j _ e => by rw [e]; exact (h.rc.lt gc rfl).1))⟩
set_option maxHeartbeats 12800000 in
set_option maxRecDepth 100000 in
theorem diffs_walk (W : World) (s t : ShT) (hs : Ss W s.a s.l) (hsn : s.a = none → s.c = 0) (hok : ∀ x ∈ s.l, x.p.size ≤ maxLen) (ht : Ss W t.a t.l) (htn : t.a = none → t.c = 0) (hok' : ∀ x ∈ t.l, x.p.size ≤ maxLen) (hg : Ground W) :
    Calls Tryd.prog 3 #[s.val, t.val] W fun e w' => e = .returned (.bool true) ∧ Below W.heap.size W w' := by
  obtain ⟨st, p, k, a, c, l⟩ := s
  obtain ⟨st', p', k', b, d, l'⟩ := t
  simp only at hs hsn hok ht htn hok'
  have HS : Hid (Ss W a l) := hs
  have HSN : Hid (a = none → c = 0) := hsn
  have HOK : Hid (∀ x ∈ l, x.p.size ≤ maxLen) := hok
  have HT : Hid (Ss W b l') := ht
  have HTN : Hid (b = none → d = 0) := htn
  have HOK' : Hid (∀ x ∈ l', x.p.size ≤ maxLen) := hok'
  have HG : Hid (Ground W) := hg
  have H0 : Hid (TwoIn W _ (shA st p k a l.length c) (shA st' p' k' b l'.length d)) := TwoIn.start W (shA st p k a l.length c) (shA st' p' k' b l'.length d)
  clear hs hsn hok ht htn hok' hg
  by_cases hls : l.length ≤ 70
  · have HSM : Hid (∀ w, Calls Tryd.prog 5 #[.agg (shA st p k a l.length c)] w fun e w' => e = .returned (.bool true) ∧ Below w.heap.size w w') := fun w => (small_any ⟨st, p, k, a, c, l⟩ w).mono (fun e w' h => ⟨by rw [h.1, decide_eq_true (by show (l.length : Int) ≤ 70; omega)], h.2⟩)
    have HLS : Hid (l.length ≤ 70) := hls
    clear hls
    by_cases hlt : l'.length ≤ 70
    · have HSM' : Hid (∀ w, Calls Tryd.prog 5 #[.agg (shA st' p' k' b l'.length d)] w fun e w' => e = .returned (.bool true) ∧ Below w.heap.size w w') := fun w => (small_any ⟨st', p', k', b, d, l'⟩ w).mono (fun e w' h => ⟨by rw [h.1, decide_eq_true (by show (l'.length : Int) ≤ 70; omega)], h.2⟩)
      have HLT : Hid (l'.length ≤ 70) := hlt
      clear hlt
      go_enter Tryd.func3, Tryd.ntmps3
      go_wp2_with fail
      refine (HSM.out _).mono ?_
      rintro e w1 ⟨rfl, hb1⟩
      have H1 : Hid (TwoIn W w1 (shA st p k a l.length c) (shA st' p' k' b l'.length d)) := H0.out.below hb1
      clear hb1
      obtain ⟨b0, b1, b2, b3⟩ := cells_4 H1.out.pb
      go_wp2_with fail
      refine (HSM'.out _).mono ?_
      rintro e w2 ⟨rfl, hb2⟩
      have H2 : Hid (TwoIn W w2 (shA st p k a l.length c) (shA st' p' k' b l'.length d)) := H1.out.below hb2
      clear hb2 b0 b1 b2 b3
      obtain ⟨a0, a1, a2, a3⟩ := cells_4 H2.out.pa
      go_wp2_with fail
      refine (roomy_any w2.heap.size st p k a c l w2 (HS.out.below H2.out.low) (by have := HLS.out; omega) (Nat.le_refl _) HSN.out).mono ?_
      rintro e w3 ⟨gc, cc, rfl, ho3, hb3⟩
      have H3 : Hid (TwoIn W (w3.alloc (.cells (shA st p k (some ⟨gc, 0, none⟩) l.length cc) 24)) (shA st p k a l.length c) (shA st' p' k' b l'.length d)) := (H2.out.below hb3).below ((Below.refl _ _).alloc (Nat.le_refl _) _)
      have HC3 : Hid ((w3.alloc (.cells (shA st p k (some ⟨gc, 0, none⟩) l.length cc) 24)).heap[w3.heap.size]? = some (.cells (shA st p k (some ⟨gc, 0, none⟩) l.length cc) 24 (0, 0))) := heap_alloc_new _ _
      have HO3 : Hid ((w3.alloc (.cells (shA st p k (some ⟨gc, 0, none⟩) l.length cc) 24)).ownsRow W.heap.size 38 3 (.slice (some ⟨gc, 0, none⟩) (l.length + 1) cc) (l.length + 1) (seCs l ++ markT.cells)) := World.ownsRow.alloc (ownsLow ho3 H2.out.low.size) _
      have HGC : Hid (gc < w3.heap.size) := (ho3.lt gc rfl).2
      clear ho3 hb3 a0 a1 a2 a3
      obtain ⟨b0, b1, b2, b3⟩ := cells_4 H3.out.pb
      go_wp2_with fail
      refine (roomy_any _ st' p' k' b d l' _ (HT.out.below H3.out.low) (by have := HLT.out; omega) (Nat.le_refl _) HTN.out).mono ?_
      rintro e w4 ⟨gd, cd, rfl, ho4, hb4⟩
      have HD5 : Hid (DI W (w4.alloc (.cells (shA st' p' k' (some ⟨gd, 0, none⟩) l'.length cd) 24)) w3.heap.size gc cc l.length w4.heap.size gd cd l'.length (shA st p k a l.length c) (shA st' p' k' b l'.length d) (shA st p k (some ⟨gc, 0, none⟩) l.length cc) (shA st' p' k' (some ⟨gd, 0, none⟩) l'.length cd) l l') :=
        ⟨new_old (kept_block hb4 H3.out.pa) _, new_old (kept_block hb4 H3.out.pb) _, new_old (kept_block hb4 HC3.out) _, heap_alloc_new _ _, World.ownsRow.alloc (owns_below HO3.out hb4) _, World.ownsRow.alloc (ownsLow ho4 H3.out.low.size) _, (by
          have h1 := (ho4.lt gd rfl).1
          have h2 := HGC.out
          simp at h1
          omega), trans2 (trans2 H3.out.low hb4) ((Below.refl _ _).alloc (Nat.le_refl _) _)⟩
      clear ho4 hb4 b0 b1 b2 b3
      obtain ⟨a0, a1, a2, a3⟩ := cells_4 HD5.out.pa
      obtain ⟨b0, b1, b2, b3⟩ := cells_4 HD5.out.pb
      obtain ⟨c0, c1, c2, c3⟩ := cells_4 HD5.out.pc
      obtain ⟨d0, d1, d2, d3⟩ := cells_4 HD5.out.pd
      go_wp2_with fail
      refine (diffs_any W.heap.size gc cc l.length st p k l a c gd cd l'.length st' p' k' l' b d _ rfl rfl (HG.out.below HD5.out.low) HD5.out.rc (HS.out.below HD5.out.low) HD5.out.rd (HT.out.below HD5.out.low) (by have := HLS.out; omega) (by have := HLT.out; omega) HOK.out HOK'.out).mono ?_
      rintro e w6 ⟨rfl, hb6⟩
      have HD6 : Hid (DI W w6 w3.heap.size gc cc l.length w4.heap.size gd cd l'.length (shA st p k a l.length c) (shA st' p' k' b l'.length d) (shA st p k (some ⟨gc, 0, none⟩) l.length cc) (shA st' p' k' (some ⟨gd, 0, none⟩) l'.length cd) l l') := HD5.out.below hb6
      clear hb6 a0 a1 a2 a3 b0 b1 b2 b3 c0 c1 c2 c3 d0 d1 d2 d3
      obtain ⟨d0, d1, d2, d3⟩ := cells_4 HD6.out.pd
      go_wp2_with fail
      refine (turned0_n W.heap.size gd cd l'.length st' p' k' l' _ rfl HD6.out.rd (by have := HLT.out; omega)).mono ?_
      rintro e w7 ⟨xa, xc, rfl, hx7, hn7, hr7, hc7, hf7⟩
      have HD7 : Hid (DI W (w7.alloc (.cells (shA st' p' k' xa l'.length xc) 24)) w3.heap.size gc cc l.length w4.heap.size gd cd l'.length (shA st p k a l.length c) (shA st' p' k' b l'.length d) (shA st p k (some ⟨gc, 0, none⟩) l.length cc) (shA st' p' k' (some ⟨gd, 0, none⟩) l'.length cd) l (l'.map turn)) := (HD6.out.turnD hr7 hc7).below ((Below.refl _ _).alloc (Nat.le_refl _) _)
      have HX7 : Hid ((w7.alloc (.cells (shA st' p' k' xa l'.length xc) 24)).heap[w7.heap.size]? = some (.cells (shA st' p' k' xa l'.length xc) 24 (0, 0))) := heap_alloc_new _ _
      have HXS : Hid (Ss (w7.alloc (.cells (shA st' p' k' xa l'.length xc) 24)) xa (l'.map turn)) := hx7.below ((Below.refl _ _).alloc (Nat.le_refl _) _)
      have HXF : Hid (∀ b o, xa = some ⟨b, o, none⟩ → ¬ b = gc) := fun b o hb e => by
        have h1 := hf7 b o hb
        have h2 := (HD6.out.rc.lt gc rfl).2
        omega
      have HL1 : Hid ((l.map turn).length = l.length) := by show _ = _; simp
      have HL2 : Hid ((l'.map turn).length = l'.length) := by show _ = _; simp
      have HK1 : Hid (∀ x ∈ l.map turn, x.p.size ≤ maxLen) := turn_ok HOK.out
      have HK2 : Hid (∀ x ∈ l'.map turn, x.p.size ≤ maxLen) := turn_ok HOK'.out
      have hw7 : W.heap.size < w7.heap.size := by have := lt_of_blk (HD6.out.turnD hr7 hc7).pa; omega
      have hw8 : W.heap.size + 1 < w7.heap.size := by have := lt_of_blk (HD6.out.turnD hr7 hc7).pb; omega
      have hw9 : w3.heap.size < w7.heap.size := by have := lt_of_blk (HD6.out.turnD hr7 hc7).pc; omega
      have hw10 : w4.heap.size < w7.heap.size := by have := lt_of_blk (HD6.out.turnD hr7 hc7).pd; omega
      clear hx7 hn7 hr7 hc7 hf7 d0 d1 d2 d3
      obtain ⟨a0, a1, a2, a3⟩ := cells_4 HD7.out.pa
      obtain ⟨c0, c1, c2, c3⟩ := cells_4 HD7.out.pc
      obtain ⟨d0, d1, d2, d3⟩ := cells_4 HD7.out.pd
      obtain ⟨x0, x1, x2, x3⟩ := cells_4 HX7.out
      go_wp2_with fail
      go_region_held3 (fun w' => w'.cell? ⟨W.heap.size, 0, none⟩ = some (.int .i64 st) ∧ w'.cell? ⟨W.heap.size, 1, none⟩ = some (.string p) ∧ w'.cell? ⟨W.heap.size, 2, none⟩ = some (.int .i64 k) ∧ w'.cell? ⟨W.heap.size, 3, none⟩ = some (.slice a l.length c) ∧ w'.cell? ⟨w3.heap.size, 0, none⟩ = some (.int .i64 st) ∧ w'.cell? ⟨w3.heap.size, 1, none⟩ = some (.string p) ∧ w'.cell? ⟨w3.heap.size, 2, none⟩ = some (.int .i64 k) ∧ w'.cell? ⟨w3.heap.size, 3, none⟩ = some (.slice (some ⟨gc, 0, none⟩) l.length cc) ∧ w'.cell? ⟨w4.heap.size, 0, none⟩ = some (.int .i64 st') ∧ w'.cell? ⟨w4.heap.size, 1, none⟩ = some (.string p') ∧ w'.cell? ⟨w4.heap.size, 2, none⟩ = some (.int .i64 k') ∧ w'.cell? ⟨w4.heap.size, 3, none⟩ = some (.slice (some ⟨gd, 0, none⟩) l'.length cd) ∧ w'.cell? ⟨w7.heap.size, 0, none⟩ = some (.int .i64 st') ∧ w'.cell? ⟨w7.heap.size, 1, none⟩ = some (.string p') ∧ w'.cell? ⟨w7.heap.size, 2, none⟩ = some (.int .i64 k') ∧ w'.cell? ⟨w7.heap.size, 3, none⟩ = some (.slice xa l'.length xc)) (first | exact ⟨a0, a1, a2, a3, c0, c1, c2, c3, d0, d1, d2, d3, x0, x1, x2, x3⟩ | go_keep)
        (first
        | (go_at_call 7; refine (diffs_any W.heap.size gc cc l.length st p k (l.map turn) ya yc gd cd l'.length st' p' k' (l'.map turn) xa xc w9 HL1.out HL2.out (HG.out.below HD9.out.low) HD9.out.rc HY9.out HD9.out.rd HXS9.out (by have := HLS.out; omega) (by have := HLT.out; omega) HK1.out HK2.out).mono ?_; rintro e w10 ⟨rfl, hb10⟩
           have HD10 : Hid (Below W.heap.size W w10) := trans2 HD9.out.low hb10
           have HX10 : Hid _ := kept_block hb10 HX9.out
           have HDD : Hid _ := HD9.out.below hb10
           clear hb10 a0 a1 a2 a3 c0 c1 c2 c3 d0 d1 d2 d3 x0 x1 x2 x3
           obtain ⟨a0, a1, a2, a3⟩ := cells_4 HDD.out.pa
           obtain ⟨c0, c1, c2, c3⟩ := cells_4 HDD.out.pc
           obtain ⟨d0, d1, d2, d3⟩ := cells_4 HDD.out.pd
           obtain ⟨x0, x1, x2, x3⟩ := cells_4 HX10.out)
        | (go_at_call 8; refine (turned0_n W.heap.size gc cc l.length st p k l w8 rfl HD8.out.rc (by have := HLS.out; omega)).mono ?_; rintro e w9 ⟨ya, yc, rfl, hy9, hn9, hr9, hc9, hf9⟩
           have HD9 : Hid (DI W w9 w3.heap.size gc cc l.length w4.heap.size gd cd l'.length (shA st p k a l.length c) (shA st' p' k' b l'.length d) (shA st p k (some ⟨gc, 0, none⟩) l.length cc) (shA st' p' k' (some ⟨gd, 0, none⟩) l'.length cd) (l.map turn) (l'.map turn)) := HD8.out.turnC hr9 hc9
           have HY9 : Hid (Ss w9 ya (l.map turn)) := hy9
           have HXS9 : Hid (Ss w9 xa (l'.map turn)) := ss_chg HXS8.out hc9 HXF.out
           have HX9 : Hid (w9.heap[w7.heap.size]? = some (.cells (shA st' p' k' xa l'.length xc) 24 (0, 0))) := box_turn HD8.out.rc hc9 HX8.out
           clear hy9 hn9 hr9 hc9 hf9 a0 a1 a2 a3 c0 c1 c2 c3 d0 d1 d2 d3 x0 x1 x2 x3
           obtain ⟨a0, a1, a2, a3⟩ := cells_4 HD9.out.pa
           obtain ⟨c0, c1, c2, c3⟩ := cells_4 HD9.out.pc
           obtain ⟨d0, d1, d2, d3⟩ := cells_4 HD9.out.pd
           obtain ⟨x0, x1, x2, x3⟩ := cells_4 HX9.out)
        | (go_at_call 7; refine (diffs_any W.heap.size gc cc l.length st p k l a c gd cd l'.length st' p' k' (l'.map turn) xa xc _ rfl HL2.out (HG.out.below (below_drew HD7.out.low)) (owns_below HD7.out.rc ⟨rfl, rfl, rfl, Nat.le_refl _, fun _ _ => rfl⟩) (HS.out.below (below_drew HD7.out.low)) (owns_below HD7.out.rd ⟨rfl, rfl, rfl, Nat.le_refl _, fun _ _ => rfl⟩) (HXS.out.below ⟨rfl, rfl, rfl, Nat.le_refl _, fun _ _ => rfl⟩) (by have := HLS.out; omega) (by have := HLT.out; omega) HOK.out HK2.out).mono ?_; rintro e w8 ⟨rfl, hb8⟩
           have HD8 : Hid (DI W w8 w3.heap.size gc cc l.length w4.heap.size gd cd l'.length (shA st p k a l.length c) (shA st' p' k' b l'.length d) (shA st p k (some ⟨gc, 0, none⟩) l.length cc) (shA st' p' k' (some ⟨gd, 0, none⟩) l'.length cd) l (l'.map turn)) := HD7.out.below (of_drew hb8)
           have HXS8 : Hid (Ss w8 xa (l'.map turn)) := HXS.out.below (of_drew hb8)
           have HX8 : Hid (w8.heap[w7.heap.size]? = some (.cells (shA st' p' k' xa l'.length xc) 24 (0, 0))) := kept_block (of_drew hb8) HX7.out
           clear hb8 a0 a1 a2 a3 c0 c1 c2 c3 d0 d1 d2 d3 x0 x1 x2 x3
           obtain ⟨a0, a1, a2, a3⟩ := cells_4 HD8.out.pa
           obtain ⟨c0, c1, c2, c3⟩ := cells_4 HD8.out.pc
           obtain ⟨d0, d1, d2, d3⟩ := cells_4 HD8.out.pd
           obtain ⟨x0, x1, x2, x3⟩ := cells_4 HX8.out)
        | fail)
      clear a0 a1 a2 a3 c0 c1 c2 c3 d0 d1 d2 d3 x0 x1 x2 x3
      go_wp2_with fail
      have HZ : Hid (Calls Tryd.prog 9 #[.agg #[.int .i64 0, .string ⟨#[]⟩, .int .i64 0, .slice none 0 0], .agg #[.int .i64 0, .string ⟨#[]⟩, .int .i64 0, .slice none 0 0]] w10 fun e w'' => ∃ va vc, e = .returned (.tuple #[.slice va 0 vc, .int .i64 51]) ∧ Below w10.heap.size w10 w'') := by
        refine (diff_any 0 ⟨#[]⟩ 0 none 0 0 [] 0 ⟨#[]⟩ 0 none 0 0 [] w10 (HG.out.below HD10.out) (.inl rfl) (.inl rfl) rfl rfl (Nat.le_refl _) (Nat.le_refl _) (fun _ => rfl) (fun _ => rfl) (by omega) (by omega) (fun s hs => absurd hs List.not_mem_nil) (fun s hs => absurd hs List.not_mem_nil)).mono ?_
        rintro e w'' ⟨va, vc, code, D, rfl, hd, _, hb'⟩
        obtain ⟨rfl, rfl⟩ := hd.bad (fun h => not_good_none h.1)
        exact ⟨va, vc, rfl, hb'⟩
      refine Calls.mono HZ.out ?_
      rintro e w11 ⟨va, vc, rfl, hb11⟩
      have HB11 : Hid (Below W.heap.size W w11) := trans2 HD10.out hb11
      clear hb11
      go_wp2_with fail
      go_ret
      exact ⟨rfl, HB11.out⟩
    · have HSM' : Hid (∀ w, Calls Tryd.prog 5 #[.agg (shA st' p' k' b l'.length d)] w fun e w' => e = .returned (.bool false) ∧ Below w.heap.size w w') := fun w => (small_any ⟨st', p', k', b, d, l'⟩ w).mono (fun e w' h => ⟨by rw [h.1, decide_eq_false (by show ¬ (l'.length : Int) ≤ 70; omega)], h.2⟩)
      clear hlt
      go_enter Tryd.func3, Tryd.ntmps3
      go_wp2_with fail
      refine (HSM.out _).mono ?_
      rintro e w1 ⟨rfl, hb1⟩
      have H1 : Hid (TwoIn W w1 (shA st p k a l.length c) (shA st' p' k' b l'.length d)) := H0.out.below hb1
      clear hb1
      obtain ⟨b0, b1, b2, b3⟩ := cells_4 H1.out.pb
      go_wp2_with fail
      refine (HSM'.out _).mono ?_
      rintro e w2 ⟨rfl, hb2⟩
      have HB2 : Hid (Below W.heap.size W w2) := trans2 H1.out.low hb2
      clear hb2 b0 b1 b2 b3
      go_wp2_with fail
      go_ret
      exact ⟨rfl, HB2.out⟩
  · have HSM : Hid (∀ w, Calls Tryd.prog 5 #[.agg (shA st p k a l.length c)] w fun e w' => e = .returned (.bool false) ∧ Below w.heap.size w w') := fun w => (small_any ⟨st, p, k, a, c, l⟩ w).mono (fun e w' h => ⟨by rw [h.1, decide_eq_false (by show ¬ (l.length : Int) ≤ 70; omega)], h.2⟩)
    clear hls
    go_enter Tryd.func3, Tryd.ntmps3
    go_wp2_with fail
    refine (HSM.out _).mono ?_
    rintro e w1 ⟨rfl, hb1⟩
    have HB1 : Hid (Below W.heap.size W w1) := trans2 H0.out.low hb1
    clear hb1
    go_wp2_with fail
    go_ret
    exact ⟨rfl, HB1.out⟩
end Go.Proofs.YtkmiemjjedbnaaaDoor
