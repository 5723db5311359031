/-
  ShotEncodes: the walk.
-/
import Derived.Test.YtkmiemjjedbnaaaDoorEEncodes
namespace Go.Proofs.YtkmiemjjedbnaaaDoor
open Go.RowKit Classical
set_option linter.unusedVariables false
set_option linter.unusedSimpArgs false

theorem ownsLow {w : World} {B B' e s n : Nat} {v : Value} {xs : List Value} (h : w.ownsRow B e s v n xs) (hb : B' ≤ B) : w.ownsRow B' e s v n xs := by
  refine ⟨h.1, ?_⟩
  rcases h.2 with h0 | ⟨g, cap, cur, hv, hB, r⟩
  · exact .inl h0
  · exact .inr ⟨g, cap, cur, hv, Nat.le_trans hb hB, r⟩
theorem turn_ok {l : List SeenT} (h : ∀ s ∈ l, s.p.size ≤ maxLen) : ∀ s ∈ l.map turn, s.p.size ≤ maxLen := fun s hs => by
  obtain ⟨t, ht, rfl⟩ := List.mem_map.1 hs
  exact h t ht
theorem chk_a : chk 0 ⟨#[47, 97]⟩ 1 [] = 0 := chk_good ⟨by decide, (cov_self 1 _).2 ⟨by decide +kernel, by decide, by decide⟩, by simp, fun h => absurd h.1 (by decide), fun i n h => by simp at h⟩
theorem turned0_n (base g cap n : Nat) (st : Int) (p : ByteArray) (k : Int) (l : List SeenT) (w : World) (hn : l.length = n) (hr : w.ownsRow base 38 3 (.slice (some ⟨g, 0, none⟩) (n + 1) cap) (n + 1) (seCs l ++ markT.cells)) (hl : n ≤ 1000) :
    Calls Tryd.prog 8 #[.agg (shA st p k (some ⟨g, 0, none⟩) n cap), .int .i64 0] w fun e w' => ∃ a c, e = .returned (.agg (shA st p k a n c)) ∧ Ss w' a (l.map turn) ∧ (a = none → c = 0) ∧ w'.ownsRow base 38 3 (.slice (some ⟨g, 0, none⟩) (n + 1) cap) (n + 1) (seCs (l.map turn) ++ markT.cells) ∧ Chg w w' (fun j => j = g) := by
  subst hn
  exact turned_any base g cap st p k l w hr hl
/-- What stands while the law is played. -/
structure CI (W w : World) (bc gc cc n : Nat) (A C : Array Value) (l : List SeenT) : Prop where
  pa : w.heap[W.heap.size]? = some (.cells A 24 (0, 0))
  pc : w.heap[bc]? = some (.cells C 24 (0, 0))
  row : w.ownsRow W.heap.size 38 3 (.slice (some ⟨gc, 0, none⟩) (n + 1) cc) (n + 1) (seCs l ++ markT.cells)
  low : Below W.heap.size W w
theorem CI.below {W w w' : World} {bc gc cc n : Nat} {A C : Array Value} {l : List SeenT} (h : CI W w bc gc cc n A C l) (hb : Below w.heap.size w w') : CI W w' bc gc cc n A C l := ⟨kept_block hb h.pa, kept_block hb h.pc, owns_below h.row hb, trans2 h.low hb⟩
theorem CI.turn {W w w' : World} {bc gc cc n : Nat} {A C : Array Value} {l l' : List SeenT} (h : CI W w bc gc cc n A C l) (hr : w'.ownsRow W.heap.size 38 3 (.slice (some ⟨gc, 0, none⟩) (n + 1) cc) (n + 1) (seCs l' ++ markT.cells)) (hc : Chg w w' (fun j => j = gc)) : CI W w' bc gc cc n A C l' := by
  have hk : ∃ cur, w.heap[gc]? = some (.cells cur 38 (0, 0)) := owns_kind h.row rfl
  obtain ⟨cur, hk⟩ := hk
  have ne : ∀ b B, w.heap[b]? = some (.cells B 24 (0, 0)) → ¬ b = gc := fun b B hb e => by
    rw [e, hk] at hb
    cases hb
  refine ⟨?_, ?_, hr, h.low.trans (hc.below h.low.size (fun j _ e => by rw [e]; exact (h.row.lt gc rfl).1))⟩
  · rw [hc.block _ (lt_of_blk h.pa) (ne _ _ h.pa)]; exact h.pa
  · rw [hc.block _ (lt_of_blk h.pc) (ne _ _ h.pc)]; exact h.pc
theorem good_a : Good 0 ⟨#[47, 97]⟩ 1 [] := ⟨by decide, (cov_self 1 _).2 ⟨by decide +kernel, by decide, by decide⟩, by simp, fun h => absurd h.1 (by decide), fun i n h => by simp at h⟩
theorem shotL_a : (shotL 0 ⟨#[47, 97]⟩ 1 []).length = 6 := by decide +kernel
set_option maxHeartbeats 6400000 in
set_option maxRecDepth 100000 in
theorem encodes_walk (W : World) (s : ShT) (hs : Ss W s.a s.l) (hsn : s.a = none → s.c = 0) (hok : ∀ x ∈ s.l, x.p.size ≤ maxLen) (hg : Ground W) :
    Calls Tryd.prog 4 #[s.val] W fun e w' => e = .returned (.bool true) ∧ Below W.heap.size W w' := by
  by_cases hls : s.l.length ≤ 70
  · have hls' : (s.l.length : Int) ≤ 70 := by omega
    have HSM : Hid (∀ w, Calls Tryd.prog 5 #[s.val] w fun e w' => e = .returned (.bool true) ∧ Below w.heap.size w w') := fun w => (small_any s w).mono (fun e w' h => ⟨by rw [h.1, decide_eq_true hls'], h.2⟩)
    have HS : Hid (Ss W s.a s.l) := hs
    have HSN : Hid _ := hsn
    have HOK : Hid (∀ x ∈ s.l, x.p.size ≤ maxLen) := hok
    have HG : Hid (Ground W) := hg
    have HLS : Hid (s.l.length ≤ 70) := hls
    clear hs hsn hls hls' hok hg
    obtain ⟨st, p, k, a, c, l⟩ := s
    go_enter Tryd.func4, Tryd.ntmps4
    go_wp2_with fail
    have HA0 : Hid ((W.alloc (.cells (shA st p k a l.length c) 24)).heap[W.heap.size]? = some (.cells (shA st p k a l.length c) 24 (0, 0))) := heap_alloc_new _ _
    have HB0 : Hid (Below W.heap.size W (W.alloc (.cells (shA st p k a l.length c) 24))) := (Below.refl _ _).alloc (Nat.le_refl _) _
    refine (HSM.out _).mono ?_
    rintro e w1 ⟨rfl, hb1⟩
    have HA1 : Hid (w1.heap[W.heap.size]? = some (.cells (shA st p k a l.length c) 24 (0, 0))) := kept_block hb1 HA0.out
    have HB1 : Hid (Below W.heap.size W w1) := trans2 HB0.out hb1
    obtain ⟨a0, a1, a2, a3⟩ := cells_4 HA1.out
    clear hb1
    go_wp2_with fail
    refine (roomy_any w1.heap.size st p k a c l w1 (HS.out.below HB1.out) (by have := HLS.out; omega) (Nat.le_refl _) HSN.out).mono ?_
    rintro e w2 ⟨gc, cc, rfl, ho2, hb2⟩
    have HA2 : Hid (w2.heap[W.heap.size]? = some (.cells (shA st p k a l.length c) 24 (0, 0))) := kept_block hb2 HA1.out
    have HB2 : Hid (Below W.heap.size W w2) := trans2 HB1.out hb2
    have HO2 : Hid (w2.ownsRow W.heap.size 38 3 (.slice (some ⟨gc, 0, none⟩) (l.length + 1) cc) (l.length + 1) (seCs l ++ markT.cells)) := ownsLow ho2 HB1.out.size
    clear hb2 ho2 a0 a1 a2 a3
    have H3 : Hid (CI W (w2.alloc (.cells (shA st p k (some ⟨gc, 0, none⟩) l.length cc) 24)) w2.heap.size gc cc l.length (shA st p k a l.length c) (shA st p k (some ⟨gc, 0, none⟩) l.length cc) l) := ⟨new_old HA2.out _, heap_alloc_new _ _, World.ownsRow.alloc HO2.out _, trans2 HB2.out ((Below.refl _ _).alloc (Nat.le_refl _) _)⟩
    have HL1 : Hid ((l.map turn).length = l.length) := by show _ = _; simp
    have HK1 : Hid (∀ x ∈ l.map turn, x.p.size ≤ maxLen) := turn_ok HOK.out
    obtain ⟨a0, a1, a2, a3⟩ := cells_4 H3.out.pa
    obtain ⟨c0, c1, c2, c3⟩ := cells_4 H3.out.pc
    have HQ1 : Hid (∀ w', Below W.heap.size W w' → Calls Tryd.prog 11 #[.agg #[.int .i64 0, .string ⟨#[47, 97]⟩, .int .i64 1, .slice none 0 0]] w' fun e w'' => ∃ a' c', e = .returned (.tuple #[.slice a' 6 c', .int .i64 0]) ∧ Below w'.heap.size w' w'') := fun w' hb => by
      refine (encode_any 0 ⟨#[47, 97]⟩ 1 none 0 0 [] w' rfl (HG.out.below hb) (.inl rfl) (fun s hs => absurd hs List.not_mem_nil) (Nat.zero_le _) (Nat.le_refl _)).mono ?_
      rintro e w'' ⟨a', c', zs, rfl, hz, _, _, hb'⟩
      refine ⟨a', c', ?_, hb'⟩
      rw [hz good_a, shotL_a, chk_a]
    go_wp2_with fail
    go_region_held3 (fun w' => w'.cell? ⟨W.heap.size, 0, none⟩ = some (.int .i64 st) ∧ w'.cell? ⟨W.heap.size, 1, none⟩ = some (.string p) ∧ w'.cell? ⟨W.heap.size, 2, none⟩ = some (.int .i64 k) ∧ w'.cell? ⟨W.heap.size, 3, none⟩ = some (.slice a l.length c) ∧ w'.cell? ⟨w2.heap.size, 0, none⟩ = some (.int .i64 st) ∧ w'.cell? ⟨w2.heap.size, 1, none⟩ = some (.string p) ∧ w'.cell? ⟨w2.heap.size, 2, none⟩ = some (.int .i64 k) ∧ w'.cell? ⟨w2.heap.size, 3, none⟩ = some (.slice (some ⟨gc, 0, none⟩) l.length cc)) (first | exact ⟨a0, a1, a2, a3, c0, c1, c2, c3⟩ | go_keep)
      (first
      | (go_at_call 10; refine (encodes_any W.heap.size gc cc l.length st p k (l.map turn) xa xc w5 HL1.out (HG.out.below H5.out.low) H5.out.row HX5.out (by have := HLS.out; omega) HK1.out).mono ?_; rintro e w6 ⟨rfl, hb6⟩
         have H6 : Hid (CI W w6 w2.heap.size gc cc l.length (shA st p k a l.length c) (shA st p k (some ⟨gc, 0, none⟩) l.length cc) (l.map turn)) := H5.out.below hb6
         clear hb6 a0 a1 a2 a3 c0 c1 c2 c3
         obtain ⟨a0, a1, a2, a3⟩ := cells_4 H6.out.pa
         obtain ⟨c0, c1, c2, c3⟩ := cells_4 H6.out.pc)
      | (go_at_call 8; refine (turned0_n W.heap.size gc cc l.length st p k l w4 rfl H4.out.row (by have := HLS.out; omega)).mono ?_; rintro e w5 ⟨xa, xc, rfl, hx5, hn5, hr5, hc5⟩
         have H5 : Hid (CI W w5 w2.heap.size gc cc l.length (shA st p k a l.length c) (shA st p k (some ⟨gc, 0, none⟩) l.length cc) (l.map turn)) := H4.out.turn hr5 hc5
         have HX5 : Hid (Ss w5 xa (l.map turn)) := hx5
         clear hx5 hn5 hr5 hc5 a0 a1 a2 a3 c0 c1 c2 c3
         obtain ⟨a0, a1, a2, a3⟩ := cells_4 H5.out.pa
         obtain ⟨c0, c1, c2, c3⟩ := cells_4 H5.out.pc)
      | (go_at_call 10; refine (encodes_any W.heap.size gc cc l.length st p k l a c _ rfl (HG.out.below (below_drew H3.out.low)) (owns_below H3.out.row ⟨rfl, rfl, rfl, Nat.le_refl _, fun _ _ => rfl⟩) (HS.out.below (below_drew H3.out.low)) (by have := HLS.out; omega) HOK.out).mono ?_; rintro e w4 ⟨rfl, hb4⟩
         have H4 : Hid (CI W w4 w2.heap.size gc cc l.length (shA st p k a l.length c) (shA st p k (some ⟨gc, 0, none⟩) l.length cc) l) := H3.out.below (of_drew hb4)
         clear hb4 a0 a1 a2 a3 c0 c1 c2 c3
         obtain ⟨a0, a1, a2, a3⟩ := cells_4 H4.out.pa
         obtain ⟨c0, c1, c2, c3⟩ := cells_4 H4.out.pc)
      | fail)
    go_wp2_with fail
    refine (HQ1.out _ H6.out.low).mono ?_
    rintro e w7 ⟨ra, rc, rfl, hb7⟩
    have HB7 : Hid (Below W.heap.size W w7) := trans2 H6.out.low hb7
    clear hb7
    go_wp2_with fail
    go_ret
    exact ⟨rfl, HB7.out⟩
  · have hls' : ¬ (s.l.length : Int) ≤ 70 := by omega
    have HSM : Hid (∀ w, Calls Tryd.prog 5 #[s.val] w fun e w' => e = .returned (.bool false) ∧ Below w.heap.size w w') := fun w => (small_any s w).mono (fun e w' h => ⟨by rw [h.1, decide_eq_false hls'], h.2⟩)
    clear hs hsn hls hls' hok hg
    obtain ⟨st, p, k, a, c, l⟩ := s
    go_enter Tryd.func4, Tryd.ntmps4
    go_wp2_with fail
    have HB0 : Hid (Below W.heap.size W (W.alloc (.cells (shA st p k a l.length c) 24))) := (Below.refl _ _).alloc (Nat.le_refl _) _
    refine (HSM.out _).mono ?_
    rintro e w1 ⟨rfl, hb1⟩
    have HB1 : Hid (Below W.heap.size W w1) := trans2 HB0.out hb1
    clear hb1
    go_wp2_with fail
    go_ret
    exact ⟨rfl, HB1.out⟩
end Go.Proofs.YtkmiemjjedbnaaaDoor
