/-
  ShotChecks: the walk.
-/
import Derived.Test.YtjanlaphfkeejaaDoorCChecks
namespace Go.Proofs.YtjanlaphfkeejaaDoor
open Go.RowKit Classical
set_option linter.unusedVariables false
set_option linter.unusedSimpArgs false

theorem ownsLow {w : World} {B B' e s n : Nat} {v : Value} {xs : List Value} (h : w.ownsRow B e s v n xs) (hb : B' ≤ B) : w.ownsRow B' e s v n xs := by
  refine ⟨h.1, ?_⟩
  rcases h.2 with h0 | ⟨g, cap, cur, hv, hB, r⟩
  · exact .inl h0
  · exact .inr ⟨g, cap, cur, hv, Nat.le_trans hb hB, r⟩
theorem turn_ok {l : List SeenT} (h : ∀ s ∈ l, s.p.size ≤ maxLen) : ∀ s ∈ l.map turn, s.p.size ≤ maxLen := fun s hs => by
  obtain ⟨t, ht, rfl⟩ := List.mem_map.1 hs
  exact h t ht
theorem chk_a : chk 0 ⟨#[47, 97]⟩ 1 [] = 0 := chk_good ⟨by decide, (cov_self 1 _).2 ⟨by decide +kernel, by decide, by decide⟩, by simp, fun h => absurd h.1 (by decide), fun i n h => by simp at h⟩
theorem chk_none : chk 0 ⟨#[]⟩ 0 [] = 51 := chk_bad (fun h => by have := ((cov_self 0 _).1 h.2.1).2.1; omega)
theorem checks_n (base g cap n : Nat) (st : Int) (p : ByteArray) (k : Int) (l : List SeenT) (a : Option Addr) (c : Nat) (w : World) (hn : l.length = n) (hg : Ground w) (hr : w.ownsRow base 32 3 (.slice (some ⟨g, 0, none⟩) (n + 1) cap) (n + 1) (seCs l ++ markT.cells)) (hs : Ss w a l) (hl : n ≤ 1000) (hok : ∀ s ∈ l, s.p.size ≤ maxLen) :
    Calls Tryd.prog 6 #[.agg (shA st p k (some ⟨g, 0, none⟩) n cap), .agg (shA st p k a n c)] w fun e w' => e = .returned (.bool true) ∧ Below w.heap.size w w' := by
  subst hn
  exact checks_any base g cap st p k l a c w hg hr hs hl hok
theorem turned0_n (base g cap n : Nat) (st : Int) (p : ByteArray) (k : Int) (l : List SeenT) (w : World) (hn : l.length = n) (hr : w.ownsRow base 32 3 (.slice (some ⟨g, 0, none⟩) (n + 1) cap) (n + 1) (seCs l ++ markT.cells)) (hl : n ≤ 1000) :
    Calls Tryd.prog 7 #[.agg (shA st p k (some ⟨g, 0, none⟩) n cap), .int .i64 0] w fun e w' => ∃ a c, e = .returned (.agg (shA st p k a n c)) ∧ Ss w' a (l.map turn) ∧ (a = none → c = 0) ∧ w'.ownsRow base 32 3 (.slice (some ⟨g, 0, none⟩) (n + 1) cap) (n + 1) (seCs (l.map turn) ++ markT.cells) ∧ Chg w w' (fun j => j = g) := by
  subst hn
  exact turned_any base g cap st p k l w hr hl
theorem turned1_n (base g cap n : Nat) (st : Int) (p : ByteArray) (k : Int) (l : List SeenT) (w : World) (hn : l.length = n) (hr : w.ownsRow base 32 3 (.slice (some ⟨g, 0, none⟩) (n + 1) cap) (n + 1) (seCs l ++ markT.cells)) (hl : n ≤ 1000) :
    Calls Tryd.prog 7 #[.agg (shA st p k (some ⟨g, 0, none⟩) n cap), .int .i64 1] w fun e w' => ∃ a c, e = .returned (.agg (shA st p k a n c)) ∧ Ss w' a l.reverse ∧ (a = none → c = 0) ∧ w'.ownsRow base 32 3 (.slice (some ⟨g, 0, none⟩) (n + 1) cap) (n + 1) (seCs l.reverse ++ markT.cells) ∧ Chg w w' (fun j => j = g) := by
  subst hn
  exact turned_rev base g cap st p k l w hr hl
/-- What stands while the law is played. -/
structure CI (W w : World) (bc gc cc n : Nat) (A C : Array Value) (l : List SeenT) : Prop where
  pa : w.heap[W.heap.size]? = some (.cells A 24 (0, 0))
  pc : w.heap[bc]? = some (.cells C 24 (0, 0))
  row : w.ownsRow W.heap.size 32 3 (.slice (some ⟨gc, 0, none⟩) (n + 1) cc) (n + 1) (seCs l ++ markT.cells)
  low : Below W.heap.size W w
theorem CI.below {W w w' : World} {bc gc cc n : Nat} {A C : Array Value} {l : List SeenT} (h : CI W w bc gc cc n A C l) (hb : Below w.heap.size w w') : CI W w' bc gc cc n A C l := ⟨kept_block hb h.pa, kept_block hb h.pc, owns_below h.row hb, trans2 h.low hb⟩
theorem CI.turn {W w w' : World} {bc gc cc n : Nat} {A C : Array Value} {l l' : List SeenT} (h : CI W w bc gc cc n A C l) (hr : w'.ownsRow W.heap.size 32 3 (.slice (some ⟨gc, 0, none⟩) (n + 1) cc) (n + 1) (seCs l' ++ markT.cells)) (hc : Chg w w' (fun j => j = gc)) : CI W w' bc gc cc n A C l' := by
  have hk : ∃ cur, w.heap[gc]? = some (.cells cur 32 (0, 0)) := owns_kind h.row rfl
  obtain ⟨cur, hk⟩ := hk
  have ne : ∀ b B, w.heap[b]? = some (.cells B 24 (0, 0)) → ¬ b = gc := fun b B hb e => by
    rw [e, hk] at hb
    cases hb
  refine ⟨?_, ?_, hr, h.low.trans (hc.below h.low.size (fun j _ e => by rw [e]; exact (h.row.lt gc rfl).1))⟩
  · rw [hc.block _ (lt_of_blk h.pa) (ne _ _ h.pa)]; exact h.pa
  · rw [hc.block _ (lt_of_blk h.pc) (ne _ _ h.pc)]; exact h.pc
set_option maxHeartbeats 6400000 in
set_option maxRecDepth 100000 in
theorem checks_walk (W : World) (s : ShT) (hs : Ss W s.a s.l) (hsn : s.a = none → s.c = 0) (hok : ∀ x ∈ s.l, x.p.size ≤ maxLen) (hg : Ground W) :
    Calls Tryd.prog 3 #[s.val] W fun e w' => e = .returned (.bool true) ∧ Below W.heap.size W w' := by
  by_cases hls : s.l.length ≤ 70
  · have hls' : (s.l.length : Int) ≤ 70 := by omega
    have HSM : Hid (∀ w, Calls Tryd.prog 4 #[s.val] w fun e w' => e = .returned (.bool true) ∧ Below w.heap.size w w') := fun w => (small_any s w).mono (fun e w' h => ⟨by rw [h.1, decide_eq_true hls'], h.2⟩)
    have HS : Hid (Ss W s.a s.l) := hs
    have HSN : Hid _ := hsn
    have HOK : Hid (∀ x ∈ s.l, x.p.size ≤ maxLen) := hok
    have HG : Hid (Ground W) := hg
    have HLS : Hid (s.l.length ≤ 70) := hls
    clear hs hsn hls hls' hok hg
    obtain ⟨st, p, k, a, c, l⟩ := s
    simp only at HS HSN HOK HLS
    go_enter Tryd.func3, Tryd.ntmps3
    go_wp2_with fail
    have HA0 : Hid ((W.alloc (.cells (shA st p k a l.length c) 24)).heap[W.heap.size]? = some (.cells (shA st p k a l.length c) 24 (0, 0))) := heap_alloc_new _ _
    have HB0 : Hid (Below W.heap.size W (W.alloc (.cells (shA st p k a l.length c) 24))) := (Below.refl _ _).alloc (Nat.le_refl _) _
    refine (HSM.out _).mono ?_
    rintro e w1 ⟨rfl, hb1⟩
    have HA1 : Hid (w1.heap[W.heap.size]? = some (.cells (shA st p k a l.length c) 24 (0, 0))) := kept_block hb1 HA0.out
    have HB1 : Hid (Below W.heap.size W w1) := trans2 HB0.out hb1
    obtain ⟨a0, a1, a2, a3⟩ := cells_4 HA1.out
    clear hb1
    go_wp2_with fail
    refine (roomy_any w1.heap.size st p k a c l w1 (HS.out.below HB1.out) (by have := HLS.out; omega) (Nat.le_refl _) HSN.out).mono ?_
    rintro e w2 ⟨gc, cc, rfl, ho2, hb2⟩
    have HA2 : Hid (w2.heap[W.heap.size]? = some (.cells (shA st p k a l.length c) 24 (0, 0))) := kept_block hb2 HA1.out
    have HB2 : Hid (Below W.heap.size W w2) := trans2 HB1.out hb2
    have HO2 : Hid (w2.ownsRow W.heap.size 32 3 (.slice (some ⟨gc, 0, none⟩) (l.length + 1) cc) (l.length + 1) (seCs l ++ markT.cells)) := ownsLow ho2 HB1.out.size
    clear hb2 ho2 a0 a1 a2 a3
    have H3 : Hid (CI W (w2.alloc (.cells (shA st p k (some ⟨gc, 0, none⟩) l.length cc) 24)) w2.heap.size gc cc l.length (shA st p k a l.length c) (shA st p k (some ⟨gc, 0, none⟩) l.length cc) l) := ⟨new_old HA2.out _, heap_alloc_new _ _, World.ownsRow.alloc HO2.out _, trans2 HB2.out ((Below.refl _ _).alloc (Nat.le_refl _) _)⟩
    have HL1 : Hid ((l.map turn).length = l.length) := by show _ = _; simp
    have HL2 : Hid ((l.map turn).reverse.length = l.length) := by show _ = _; simp
    have HK1 : Hid (∀ x ∈ l.map turn, x.p.size ≤ maxLen) := turn_ok HOK.out
    have HK2 : Hid (∀ x ∈ (l.map turn).reverse, x.p.size ≤ maxLen) := fun x hx => HK1.out x (List.mem_reverse.1 hx)
    obtain ⟨a0, a1, a2, a3⟩ := cells_4 H3.out.pa
    obtain ⟨c0, c1, c2, c3⟩ := cells_4 H3.out.pc
    have HQ1 : Hid (∀ w', Below W.heap.size W w' → Calls Tryd.prog 8 #[.agg #[.int .i64 0, .string ⟨#[47, 97]⟩, .int .i64 1, .slice none 0 0]] w' fun e w'' => e = .returned (.int .i64 0) ∧ Below w'.heap.size w' w'') := fun w' hb => by
      have := check_any 0 ⟨#[47, 97]⟩ 1 none 0 [] w' (HG.out.below hb) (.inl rfl) (fun s hs => absurd hs List.not_mem_nil) (Nat.zero_le _) (Nat.le_refl _)
      rw [chk_a] at this
      exact this
    have HQ2 : Hid (∀ w', Below W.heap.size W w' → Calls Tryd.prog 8 #[.agg #[.int .i64 0, .string ⟨#[]⟩, .int .i64 0, .slice none 0 0]] w' fun e w'' => e = .returned (.int .i64 51) ∧ Below w'.heap.size w' w'') := fun w' hb => by
      have := check_any 0 ⟨#[]⟩ 0 none 0 [] w' (HG.out.below hb) (.inl rfl) (fun s hs => absurd hs List.not_mem_nil) (Nat.zero_le _) (Nat.le_refl _)
      rw [chk_none] at this
      exact this
    go_wp2_with fail
    go_region_held3 (fun w' => w'.cell? ⟨W.heap.size, 0, none⟩ = some (.int .i64 st) ∧ w'.cell? ⟨W.heap.size, 1, none⟩ = some (.string p) ∧ w'.cell? ⟨W.heap.size, 2, none⟩ = some (.int .i64 k) ∧ w'.cell? ⟨W.heap.size, 3, none⟩ = some (.slice a l.length c) ∧ w'.cell? ⟨w2.heap.size, 0, none⟩ = some (.int .i64 st) ∧ w'.cell? ⟨w2.heap.size, 1, none⟩ = some (.string p) ∧ w'.cell? ⟨w2.heap.size, 2, none⟩ = some (.int .i64 k) ∧ w'.cell? ⟨w2.heap.size, 3, none⟩ = some (.slice (some ⟨gc, 0, none⟩) l.length cc)) (first | exact ⟨a0, a1, a2, a3, c0, c1, c2, c3⟩ | go_keep)
      (first
      | (go_at_call 8; refine (HQ2.out _ H9.out.low).mono ?_; rintro e w10 ⟨rfl, hb10⟩
         have H10 : Hid (CI W w10 w2.heap.size gc cc l.length (shA st p k a l.length c) (shA st p k (some ⟨gc, 0, none⟩) l.length cc) (l.map turn).reverse) := H9.out.below hb10
         clear hb10 a0 a1 a2 a3 c0 c1 c2 c3
         obtain ⟨a0, a1, a2, a3⟩ := cells_4 H10.out.pa
         obtain ⟨c0, c1, c2, c3⟩ := cells_4 H10.out.pc)
      | (go_at_call 8; refine (HQ1.out _ H8.out.low).mono ?_; rintro e w9 ⟨rfl, hb9⟩
         have H9 : Hid (CI W w9 w2.heap.size gc cc l.length (shA st p k a l.length c) (shA st p k (some ⟨gc, 0, none⟩) l.length cc) (l.map turn).reverse) := H8.out.below hb9
         clear hb9 a0 a1 a2 a3 c0 c1 c2 c3
         obtain ⟨a0, a1, a2, a3⟩ := cells_4 H9.out.pa
         obtain ⟨c0, c1, c2, c3⟩ := cells_4 H9.out.pc)
      | (go_at_call 6; refine (checks_n W.heap.size gc cc l.length st p k (l.map turn).reverse ya yc w7 HL2.out (HG.out.below H7.out.low) H7.out.row HY7.out (by have := HLS.out; omega) HK2.out).mono ?_; rintro e w8 ⟨rfl, hb8⟩
         have H8 : Hid (CI W w8 w2.heap.size gc cc l.length (shA st p k a l.length c) (shA st p k (some ⟨gc, 0, none⟩) l.length cc) (l.map turn).reverse) := H7.out.below hb8
         clear hb8 a0 a1 a2 a3 c0 c1 c2 c3
         obtain ⟨a0, a1, a2, a3⟩ := cells_4 H8.out.pa
         obtain ⟨c0, c1, c2, c3⟩ := cells_4 H8.out.pc)
      | (go_at_call 7; refine (turned1_n W.heap.size gc cc l.length st p k (l.map turn) w6 HL1.out H6.out.row (by have := HLS.out; omega)).mono ?_; rintro e w7 ⟨ya, yc, rfl, hy7, hn7, hr7, hc7⟩
         have H7 : Hid (CI W w7 w2.heap.size gc cc l.length (shA st p k a l.length c) (shA st p k (some ⟨gc, 0, none⟩) l.length cc) (l.map turn).reverse) := H6.out.turn hr7 hc7
         have HY7 : Hid (Ss w7 ya (l.map turn).reverse) := hy7
         clear hy7 hn7 hr7 hc7 a0 a1 a2 a3 c0 c1 c2 c3
         obtain ⟨a0, a1, a2, a3⟩ := cells_4 H7.out.pa
         obtain ⟨c0, c1, c2, c3⟩ := cells_4 H7.out.pc)
      | (go_at_call 6; refine (checks_n W.heap.size gc cc l.length st p k (l.map turn) xa xc w5 HL1.out (HG.out.below H5.out.low) H5.out.row HX5.out (by have := HLS.out; omega) HK1.out).mono ?_; rintro e w6 ⟨rfl, hb6⟩
         have H6 : Hid (CI W w6 w2.heap.size gc cc l.length (shA st p k a l.length c) (shA st p k (some ⟨gc, 0, none⟩) l.length cc) (l.map turn)) := H5.out.below hb6
         clear hb6 a0 a1 a2 a3 c0 c1 c2 c3
         obtain ⟨a0, a1, a2, a3⟩ := cells_4 H6.out.pa
         obtain ⟨c0, c1, c2, c3⟩ := cells_4 H6.out.pc)
      | (go_at_call 7; refine (turned0_n W.heap.size gc cc l.length st p k l w4 rfl H4.out.row (by have := HLS.out; omega)).mono ?_; rintro e w5 ⟨xa, xc, rfl, hx5, hn5, hr5, hc5⟩
         have H5 : Hid (CI W w5 w2.heap.size gc cc l.length (shA st p k a l.length c) (shA st p k (some ⟨gc, 0, none⟩) l.length cc) (l.map turn)) := H4.out.turn hr5 hc5
         have HX5 : Hid (Ss w5 xa (l.map turn)) := hx5
         clear hx5 hn5 hr5 hc5 a0 a1 a2 a3 c0 c1 c2 c3
         obtain ⟨a0, a1, a2, a3⟩ := cells_4 H5.out.pa
         obtain ⟨c0, c1, c2, c3⟩ := cells_4 H5.out.pc)
      | (go_at_call 6; refine (checks_n W.heap.size gc cc l.length st p k l a c _ rfl (HG.out.below (below_drew H3.out.low)) (owns_below H3.out.row ⟨rfl, rfl, rfl, Nat.le_refl _, fun _ _ => rfl⟩) (HS.out.below (below_drew H3.out.low)) (by have := HLS.out; omega) HOK.out).mono ?_; rintro e w4 ⟨rfl, hb4⟩
         have H4 : Hid (CI W w4 w2.heap.size gc cc l.length (shA st p k a l.length c) (shA st p k (some ⟨gc, 0, none⟩) l.length cc) l) := H3.out.below (of_drew hb4)
         clear hb4 a0 a1 a2 a3 c0 c1 c2 c3
         obtain ⟨a0, a1, a2, a3⟩ := cells_4 H4.out.pa
         obtain ⟨c0, c1, c2, c3⟩ := cells_4 H4.out.pc)
      | fail)
    go_wp2_with fail
    go_ret
    exact ⟨rfl, H10.out.low⟩
  · have hls' : ¬ (s.l.length : Int) ≤ 70 := by omega
    have HSM : Hid (∀ w, Calls Tryd.prog 4 #[s.val] w fun e w' => e = .returned (.bool false) ∧ Below w.heap.size w w') := fun w => (small_any s w).mono (fun e w' h => ⟨by rw [h.1, decide_eq_false hls'], h.2⟩)
    clear hs hsn hls hls' hok hg
    obtain ⟨st, p, k, a, c, l⟩ := s
    go_enter Tryd.func3, Tryd.ntmps3
    go_wp2_with fail
    have HB0 : Hid (Below W.heap.size W (W.alloc (.cells (shA st p k a l.length c) 24))) := (Below.refl _ _).alloc (Nat.le_refl _) _
    refine (HSM.out _).mono ?_
    rintro e w1 ⟨rfl, hb1⟩
    have HB1 : Hid (Below W.heap.size W w1) := trans2 HB0.out hb1
    clear hb1
    go_wp2_with fail
    go_ret
    exact ⟨rfl, HB1.out⟩
end Go.Proofs.YtjanlaphfkeejaaDoor
