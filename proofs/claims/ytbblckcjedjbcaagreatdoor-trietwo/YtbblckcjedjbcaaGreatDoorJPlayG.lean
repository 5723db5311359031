import Derived.Test.YtbblckcjedjbcaaGreatDoorJAdd9
import Derived.Test.YtbblckcjedjbcaaGreatDoorJPlayed1
namespace Go.Proofs.YtbblckcjedjbcaaGreatDoor.J
open Go.RowKit Go.Maps
set_option linter.unusedVariables false
set_option linter.unusedSimpArgs false

/-- A trie of the watches L, and at X the document's trie of the same. -/
structure Pr (w : World) (K : Nat → Prop) (B X : Nat) (v : Value) (L : List On) : Prop where
  at' : At w K B L
  box : w.heap[X]? = some (.cells #[.bool false, v] 69 (0, 0))
  row : Ns w v L
  gl : Gl K
  gr : Ground w
  nx : ¬ K X
  nv : ∀ k, v.ownBlock = some k → ¬ K k ∧ k ≠ X
  x0 : X ≠ 0 ∧ X ≠ 1
theorem Pr.below {w w' : World} {K : Nat → Prop} {B X : Nat} {v : Value} {L : List On} (h : Pr w K B X v L) (hb : Below w.heap.size w w') : Pr w' K B X v L :=
  ⟨h.at'.below hb, kept_block hb h.box, h.row.below hb, h.gl, h.gr.below hb, h.nx, h.nv, h.x0⟩
theorem Pr.lt {w : World} {K : Nat → Prop} {B X : Nat} {v : Value} {L : List On} (h : Pr w K B X v L) : X < w.heap.size := lt_of_blk h.box
abbrev stX (W : World) (X : Nat) (v : Value) : World := (W.setCell ⟨X, 0, none⟩ (.bool false)).setCell ⟨X, 1, none⟩ v
theorem stX_chg (W : World) (X : Nat) (v : Value) : Chg W (stX W X v) (fun k => k = X) := (Chg.set W ⟨X, 0, none⟩ (.bool false)).trans (Chg.set _ ⟨X, 1, none⟩ v)
/-- The document's answer is laid into its box: the trie lies as it lay. -/
theorem Pr.mid {w W : World} {K : Nat → Prop} {B X : Nat} {v v' : Value} {L : List On} (h : Pr w K B X v L) (hb : Below w.heap.size w W) : At (stX W X v') K B L ∧ Ground (stX W X v') :=
  ⟨(h.at'.below hb).keep (stX_chg W X v') (fun k hk e => h.nx (e ▸ hk)), (h.gr.below hb).chg (stX_chg W X v') (fun e => h.x0.1 e.symm) (fun e => h.x0.2 e.symm)⟩
theorem Pr.turn {w W W6 : World} {K K' : Nat → Prop} {B X : Nat} {v v' : Value} {L L' : List On} (h : Pr w K B X v L) (hb : Below w.heap.size w W) (hrow : Ns W v' L') (hown : ∀ k, v'.ownBlock = some k → v.ownBlock = some k ∨ w.heap.size ≤ k)
    (hA : At W6 K' B L') (hE : AtE (stX W X v') W6 K K') : Pr W6 K' B X v' L' := by
  have hX := h.lt
  have hsz : W.heap.size ≤ (stX W X v').heap.size := (stX_chg W X v').size
  have hbs := hb.size
  have hg := hE.gl (h.mid hb).2 h.gl
  have hnK : ∀ k, v'.ownBlock = some k → ¬ K k ∧ k ≠ X := fun k hk => by
    rcases hown k hk with e | e
    · exact h.nv k e
    · exact ⟨fun hK => by have := h.at'.lt k hK; omega, by omega⟩
  have hbx : (stX W X v').heap[X]? = some (.cells #[.bool false, v'] 69 (0, 0)) := fill2 (kept_block hb h.box)
  refine ⟨hA, ?_, ?_, hg.1, hg.2, ?_, fun k hk => ⟨fun hK => ?_, (hnK k hk).2⟩, h.x0⟩
  · rw [hE.chg.block X (lt_of_blk hbx) h.nx]
    exact hbx
  · exact row_chg (row_chg hrow (stX_chg W X v') (fun k hk e => (hnK k hk).2 e)) hE.chg (fun k hk hK => (hnK k hk).1 hK)
  · intro hK
    rcases hE.new X hK with e | e
    · exact h.nx e
    · omega
  · rcases hE.new k hK with e | e
    · exact (hnK k hk).1 e
    · have := (row_block hrow k hk).2
      omega
end Go.Proofs.YtbblckcjedjbcaaGreatDoor.J
namespace Go.Proofs.YtbblckcjedjbcaaGreatDoor.J
open Go.RowKit Go.Maps
set_option linter.unusedVariables false
set_option linter.unusedSimpArgs false

/-- What an act turns: the trie's blocks and the box; what the trie has besides is new. -/
def PlG (w w' : World) (K : Nat → Prop) (X : Nat) (K' : Nat → Prop) (v v' : Value) : Prop := Chg w w' (fun k => K k ∨ k = X) ∧ (∀ k, K' k → K k ∨ w.heap.size ≤ k) ∧ (∀ k, v'.ownBlock = some k → v.ownBlock = some k ∨ w.heap.size ≤ k)
theorem plG {w W W6 : World} {K K' : Nat → Prop} {X : Nat} {v v' : Value} (hb : Below w.heap.size w W) (hE : AtE (stX W X v') W6 K K') (ho : ∀ k, v'.ownBlock = some k → v.ownBlock = some k ∨ w.heap.size ≤ k) : PlG w W6 K X K' v v' := by
  have hs := (stX_chg W X v').size
  have h2 := hb.size
  refine ⟨((Chg.of_below hb _).trans ((stX_chg W X v').mono (fun k _ e => .inr e))).trans (hE.chg.mono (fun k _ e => .inl e)), fun k hk => ?_, ho⟩
  rcases hE.new k hk with e | e
  · exact .inl e
  · exact .inr (by omega)
set_option maxHeartbeats 6400000 in
set_option maxRecDepth 100000 in
theorem playG_1 (K : Nat → Prop) (B X : Nat) (a : Option Addr) (c n : Nat) (L : List On) (o : On) (w : World) (hP : Pr w K B X (.slice a n c) L) (hn : L.length = n) (hlen : L.length ≤ 1000) (hwf : wfI o.s) :
    Calls Tryz.prog 25 #[ndV B, .pointer (some ⟨X, 0, none⟩), .agg #[.int .i64 1, .int .i64 o.s, .int .i64 o.i, .string o.p, .int .i64 o.k, .int .i64 o.f]] w fun e w' => e = .returned (.bool true) ∧ ∃ K' v', Pr w' K' B X v' (if addC L o = 0 then insO o L else L) ∧ PlG w w' K X K' (.slice a n c) v' := by
  have hl : n ≤ 100000 := by omega
  obtain ⟨w0, hw0⟩ : ∃ w0, w.alloc (.cells #[.int .i64 1, .int .i64 o.s, .int .i64 o.i, .string o.p, .int .i64 o.k, .int .i64 o.f] 72) = w0 := ⟨_, rfl⟩
  have HB0 : Hid (Below w.heap.size w w0) := by rw [← hw0]; exact (Below.refl _ _).alloc (Nat.le_refl _) _
  have hb0 : w0.heap[w.heap.size]? = some (.cells #[.int .i64 1, .int .i64 o.s, .int .i64 o.i, .string o.p, .int .i64 o.k, .int .i64 o.f] 72 (0, 0)) := by rw [← hw0]; exact heap_alloc_new _ _
  have HA0 : Hid (w0.heap[w.heap.size]? = some (.cells #[.int .i64 1, .int .i64 o.s, .int .i64 o.i, .string o.p, .int .i64 o.k, .int .i64 o.f] 72 (0, 0))) := hb0
  have HP : Hid (Pr w K B X (.slice a n c) L) := hP
  have HXl : Hid (X < w.heap.size) := hP.lt
  have HX0 : Hid (w0.heap[X]? = some (.cells #[.bool false, .slice a n c] 69 (0, 0))) := kept_block HB0.out hP.box
  have HSW : Hid (∀ w', Below w0.heap.size w0 w' → w'.cell? ⟨X, 0, none⟩ = some (.bool false) ∧ w'.cell? ⟨X, 1, none⟩ = some (.slice a n c) ∧ w'.cell? ⟨w.heap.size, 1, none⟩ = some (.int .i64 o.s) ∧ w'.cell? ⟨w.heap.size, 2, none⟩ = some (.int .i64 o.i) ∧ w'.cell? ⟨w.heap.size, 3, none⟩ = some (.string o.p) ∧ w'.cell? ⟨w.heap.size, 4, none⟩ = some (.int .i64 o.k) ∧ w'.cell? ⟨w.heap.size, 5, none⟩ = some (.int .i64 o.f)) := fun w' hb => by
    obtain ⟨a0, a1, a2, a3, a4, a5⟩ := cells_6 (kept_block hb HA0.out)
    obtain ⟨c0, c1⟩ := cells_2 (kept_block hb HX0.out)
    exact ⟨c0, c1, a1, a2, a3, a4, a5⟩
  obtain ⟨a0, a1, a2, a3, a4, a5⟩ := cells_6 hb0
  obtain ⟨c0, c1⟩ := cells_2 HX0.out
  obtain ⟨L1, hL1⟩ : ∃ L1, (if addC L o = 0 then insO o L else L) = L1 := ⟨_, rfl⟩
  obtain ⟨r, hr⟩ : ∃ r : Int, (addC L o) = r := ⟨_, rfl⟩
  have HADD : Hid (∀ W, Below w.heap.size w W → Calls Tryz.prog 49 #[xVal (.slice a n c), .int .i64 o.s, watV o.i o.p o.k o.f] W fun e w' => ∃ v, e = .returned (.tuple #[xVal v, .int .i64 r]) ∧ Ns w' v L1 ∧ (∀ k, v.ownBlock = some k → (Value.slice a n c).ownBlock = some k ∨ W.heap.size ≤ k) ∧ Below W.heap.size W w') := fun W hb => by
    have h1 := add9 a c n L o W HP.out.at'.ord (HP.out.row.below hb) hn hl
    rw [hL1, hr] at h1
    exact h1
  have HAN : Hid (∀ W5, At W5 K B L → Ground W5 → Calls Tryz.prog 16 #[ndV B, .int .i64 o.s, watV o.i o.p o.k o.f] W5 fun e w' => e = .returned (.int .i64 r) ∧ ∃ K', At w' K' B L1 ∧ AtE W5 w' K K') := fun W5 hA hg => by
    have h1 := addA W5 K B L o hA hg hlen hwf
    rw [hL1, hr] at h1
    exact h1
  have HW : Hid (w.alloc (.cells #[.int .i64 1, .int .i64 o.s, .int .i64 o.i, .string o.p, .int .i64 o.k, .int .i64 o.f] 72) = w0) := hw0
  rw [hL1]
  clear hb0 hP hL1 hr hwf
  go_enter Tryz.func25, Tryz.ntmps25
  rw [← hw0] at a0 a1 a2 a3 a4 a5 c0 c1
  clear hw0
  go_upto_region 3 with fail
  rw [HW.out] at a0 a1 a2 a3 a4 a5 c0 c1 ⊢
  go_cut [7, 8] from 22 to 32 (fun s8 s9 wc => ∃ (g8 : Nat) (a8 : Option Addr) (c8 : Nat), s8 = .pointer (some ⟨g8, 0, none⟩) ∧ s9 = .int .i64 r ∧ Hid (w0.heap.size ≤ g8) ∧ Hid (wc.heap[g8]? = some (.cells #[.bool false, .slice a8 L1.length c8] 69 (0, 0))) ∧ Hid (Ns wc (.slice a8 L1.length c8) L1) ∧ Hid (∀ k, (Value.slice a8 L1.length c8).ownBlock = some k → (Value.slice a n c).ownBlock = some k ∨ w.heap.size ≤ k) ∧ Hid (Below w0.heap.size w0 wc))
  case first =>
    go_region_held3 (fun w' => w'.cell? ⟨X, 0, none⟩ = some (.bool false) ∧ w'.cell? ⟨X, 1, none⟩ = some (.slice a n c) ∧ w'.cell? ⟨w.heap.size, 1, none⟩ = some (.int .i64 o.s) ∧ w'.cell? ⟨w.heap.size, 2, none⟩ = some (.int .i64 o.i) ∧ w'.cell? ⟨w.heap.size, 3, none⟩ = some (.string o.p) ∧ w'.cell? ⟨w.heap.size, 4, none⟩ = some (.int .i64 o.k) ∧ w'.cell? ⟨w.heap.size, 5, none⟩ = some (.int .i64 o.f))
      (first
      | (refine HSW.out _ ?_; repeat (first | exact Below.refl _ _ | exact HB4.out | refine below_drew ?_ | refine ext_alloc ?_ _ | refine ext_set ?_ (by first | exact Nat.le_refl _ | exact HB4.out.size)))
      | go_keep)
      (first
      | (go_at_call 49
         refine (HADD.out w0.drew (below_drew HB0.out)).mono ?_
         rintro e w4 ⟨v4, rfl, hn4, ho4, hb4⟩
         obtain ⟨a4, c4, rfl⟩ := hn4.form
         have HB4 : Hid (Below w0.heap.size w0 w4) := of_drew hb4
         have HN4 : Hid (Ns w4 (.slice a4 L1.length c4) L1) := hn4
         have HO4 : Hid (∀ k, (Value.slice a4 L1.length c4).ownBlock = some k → (Value.slice a n c).ownBlock = some k ∨ w.heap.size ≤ k) := fun k hk => (ho4 k hk).imp id (fun h => Nat.le_trans HB0.out.size h)
         clear hb4 hn4 ho4)
      | (go_at_call 49
         refine (HADD.out (w0.drew.alloc (.cells #[.bool false, .slice none 0 0] 69)) ((below_drew HB0.out).alloc HB0.out.size _)).mono ?_
         rintro e w4 ⟨v4, rfl, hn4, ho4, hb4⟩
         obtain ⟨a4, c4, rfl⟩ := hn4.form
         have hA4 : w4.heap[w0.heap.size]? = some (.cells #[.bool false, .slice none 0 0] 69 (0, 0)) := kept_block hb4 (heap_alloc_new w0.drew _)
         have HA4 : Hid (w4.heap[w0.heap.size]? = some (.cells #[.bool false, .slice none 0 0] 69 (0, 0))) := hA4
         obtain ⟨q0, q1⟩ := cells_2 hA4
         have f4 := free_of hA4
         have HB4 : Hid (Below w0.heap.size w0 w4) := xtrans2 ((below_drew (Below.refl _ _)).alloc (Nat.le_refl _) _) hb4
         have HN4 : Hid (Ns w4 (.slice a4 L1.length c4) L1) := hn4
         have HO4 : Hid (∀ k, (Value.slice a4 L1.length c4).ownBlock = some k → (Value.slice a n c).ownBlock = some k ∨ w0.heap.size + 1 ≤ k) := fun k hk => (ho4 k hk).imp id (fun h => by rw [World.size_alloc] at h; exact h)
         clear hb4 hA4 hn4 ho4))
    all_goals
      go_wp2_with fail
      go_meet
    case rel => exact ⟨_, a4, c4, rfl, rfl, HB4.out.size, heap_alloc_new _ _, HN4.out.below ((Below.refl _ _).alloc (Nat.le_refl _) _), HO4.out, ext_alloc HB4.out _⟩
    case rel => exact ⟨_, a4, c4, rfl, rfl, Nat.le_refl _, fill2 HA4.out, row_chg HN4.out (stX_chg w4 w0.heap.size (.slice a4 L1.length c4)) (fun k hk e => by
      have e' : k = w0.heap.size := e
      rcases HO4.out k hk with h | h
      · have h1 := (row_block HP.out.row k h).2
        have h2 := HB0.out.size
        omega
      · omega), fun k hk => (HO4.out k hk).imp id (fun h => by have := HB0.out.size; omega), ext_set (ext_set HB4.out (Nat.le_refl _)) (Nat.le_refl _)⟩
  case rest =>
    obtain ⟨g8, a8, c8, rfl, rfl, HG8, HA8, HN8, HO8, HB8⟩ := hcut
    clear a0 a1 a2 a3 a4 a5 c0 c1
    have HA5 : Hid (wc.heap[w.heap.size]? = some (.cells #[.int .i64 1, .int .i64 o.s, .int .i64 o.i, .string o.p, .int .i64 o.k, .int .i64 o.f] 72 (0, 0))) := kept_block HB8.out HA0.out
    have HX5 : Hid (wc.heap[X]? = some (.cells #[.bool false, .slice a n c] 69 (0, 0))) := kept_block HB8.out HX0.out
    have HBC : Hid (Below w.heap.size w wc) := xtrans2 HB0.out HB8.out
    obtain ⟨a0, a1, a2, a3, a4, a5⟩ := cells_6 HA5.out
    obtain ⟨c0, c1⟩ := cells_2 HX5.out
    obtain ⟨b0, b1⟩ := cells_2 HA8.out
    have fx := free_of HX5.out
    go_upto_region 5 with fail
    clear a0 a1 a2 a3 a4 a5 c0 c1 b0 b1 fx
    obtain ⟨W5, hW5⟩ : ∃ z, (wc.setCell ⟨X, 0, none⟩ (.bool false)).setCell ⟨X, 1, none⟩ (.slice a8 L1.length c8) = z := ⟨_, rfl⟩
    have HW5 : Hid (stX wc X (.slice a8 L1.length c8) = W5) := hW5
    have h5 : W5.heap[w.heap.size]? = some (.cells #[.int .i64 1, .int .i64 o.s, .int .i64 o.i, .string o.p, .int .i64 o.k, .int .i64 o.f] 72 (0, 0)) := by
      have := HXl.out
      rw [← hW5]
      exact other_blk (other_blk HA5.out (by omega)) (by omega)
    have HMI : Hid (At W5 K B L ∧ Ground W5) := by rw [← hW5]; exact HP.out.mid HBC.out
    rw [hW5]
    obtain ⟨a0, a1, a2, a3, a4, a5⟩ := cells_6 h5
    clear h5 hW5
    go_wp2_with (first
      | (go_at_call 16; refine Calls.mono (HAN.out _ HMI.out.1 HMI.out.2) ?_; rintro e w6 ⟨rfl, K', hA6, hE6⟩
         have HA6 : Hid (At w6 K' B L1) := hA6
         have HE6 : Hid (AtE (stX wc X (.slice a8 L1.length c8)) w6 K K') := by rw [HW5.out]; exact hE6
         clear hA6 hE6 a0 a1 a2 a3 a4 a5)
      | fail)
    go_ret
    exact ⟨by simp, K', .slice a8 L1.length c8, HP.out.turn HBC.out HN8.out HO8.out HA6.out HE6.out, plG HBC.out HE6.out HO8.out⟩
set_option maxHeartbeats 6400000 in
set_option maxRecDepth 100000 in
theorem playG_2 (K : Nat → Prop) (B X : Nat) (a : Option Addr) (c n : Nat) (L : List On) (o : On) (w : World) (hP : Pr w K B X (.slice a n c) L) (hn : L.length = n) (hlen : L.length ≤ 1000) (hwf : wfI o.s) :
    Calls Tryz.prog 25 #[ndV B, .pointer (some ⟨X, 0, none⟩), .agg #[.int .i64 2, .int .i64 o.s, .int .i64 o.i, .string o.p, .int .i64 o.k, .int .i64 o.f]] w fun e w' => e = .returned (.bool true) ∧ ∃ K' v', Pr w' K' B X v' (delO L o.s o.i) ∧ PlG w w' K X K' (.slice a n c) v' := by
  have hl : n ≤ 100000 := by omega
  obtain ⟨w0, hw0⟩ : ∃ w0, w.alloc (.cells #[.int .i64 2, .int .i64 o.s, .int .i64 o.i, .string o.p, .int .i64 o.k, .int .i64 o.f] 72) = w0 := ⟨_, rfl⟩
  have HB0 : Hid (Below w.heap.size w w0) := by rw [← hw0]; exact (Below.refl _ _).alloc (Nat.le_refl _) _
  have hb0 : w0.heap[w.heap.size]? = some (.cells #[.int .i64 2, .int .i64 o.s, .int .i64 o.i, .string o.p, .int .i64 o.k, .int .i64 o.f] 72 (0, 0)) := by rw [← hw0]; exact heap_alloc_new _ _
  have HA0 : Hid (w0.heap[w.heap.size]? = some (.cells #[.int .i64 2, .int .i64 o.s, .int .i64 o.i, .string o.p, .int .i64 o.k, .int .i64 o.f] 72 (0, 0))) := hb0
  have HP : Hid (Pr w K B X (.slice a n c) L) := hP
  have HXl : Hid (X < w.heap.size) := hP.lt
  have HX0 : Hid (w0.heap[X]? = some (.cells #[.bool false, .slice a n c] 69 (0, 0))) := kept_block HB0.out hP.box
  have HSW : Hid (∀ w', Below w0.heap.size w0 w' → w'.cell? ⟨X, 0, none⟩ = some (.bool false) ∧ w'.cell? ⟨X, 1, none⟩ = some (.slice a n c) ∧ w'.cell? ⟨w.heap.size, 1, none⟩ = some (.int .i64 o.s) ∧ w'.cell? ⟨w.heap.size, 2, none⟩ = some (.int .i64 o.i)) := fun w' hb => by
    obtain ⟨a0, a1, a2, a3, a4, a5⟩ := cells_6 (kept_block hb HA0.out)
    obtain ⟨c0, c1⟩ := cells_2 (kept_block hb HX0.out)
    exact ⟨c0, c1, a1, a2⟩
  obtain ⟨a0, a1, a2, a3, a4, a5⟩ := cells_6 hb0
  obtain ⟨c0, c1⟩ := cells_2 HX0.out
  obtain ⟨L1, hL1⟩ : ∃ L1, (delO L o.s o.i) = L1 := ⟨_, rfl⟩
  obtain ⟨r, hr⟩ : ∃ r : Int, (dropC L o.s o.i) = r := ⟨_, rfl⟩
  have HADD : Hid (∀ W, Below w.heap.size w W → Calls Tryz.prog 50 #[xVal (.slice a n c), .int .i64 o.s, .int .i64 o.i] W fun e w' => ∃ v, e = .returned (.tuple #[xVal v, .int .i64 r]) ∧ Ns w' v L1 ∧ (∀ k, v.ownBlock = some k → (Value.slice a n c).ownBlock = some k ∨ W.heap.size ≤ k) ∧ Below W.heap.size W w') := fun W hb => by
    have h1 := drop9 a c n L o.s o.i W HP.out.at'.ord (HP.out.row.below hb) hn hl
    rw [hL1, hr] at h1
    exact h1
  have HAN : Hid (∀ W5, At W5 K B L → Ground W5 → Calls Tryz.prog 19 #[ndV B, .int .i64 o.s, .int .i64 o.i] W5 fun e w' => e = .returned (.int .i64 r) ∧ ∃ K', At w' K' B L1 ∧ AtE W5 w' K K') := fun W5 hA hg => by
    have h1 := dropA W5 K B L o.s o.i hA hg hlen hwf
    rw [hL1, hr] at h1
    exact h1
  have HW : Hid (w.alloc (.cells #[.int .i64 2, .int .i64 o.s, .int .i64 o.i, .string o.p, .int .i64 o.k, .int .i64 o.f] 72) = w0) := hw0
  rw [hL1]
  clear hb0 hP hL1 hr hwf
  go_enter Tryz.func25, Tryz.ntmps25
  rw [← hw0] at a0 a1 a2 a3 a4 a5 c0 c1
  clear hw0
  go_upto_region 7 with fail
  rw [HW.out] at a0 a1 a2 a3 a4 a5 c0 c1 ⊢
  go_cut [9, 10] from 46 to 57 (fun s8 s9 wc => ∃ (g8 : Nat) (a8 : Option Addr) (c8 : Nat), s8 = .pointer (some ⟨g8, 0, none⟩) ∧ s9 = .int .i64 r ∧ Hid (w0.heap.size ≤ g8) ∧ Hid (wc.heap[g8]? = some (.cells #[.bool false, .slice a8 L1.length c8] 69 (0, 0))) ∧ Hid (Ns wc (.slice a8 L1.length c8) L1) ∧ Hid (∀ k, (Value.slice a8 L1.length c8).ownBlock = some k → (Value.slice a n c).ownBlock = some k ∨ w.heap.size ≤ k) ∧ Hid (Below w0.heap.size w0 wc))
  case first =>
    go_region_held3 (fun w' => w'.cell? ⟨X, 0, none⟩ = some (.bool false) ∧ w'.cell? ⟨X, 1, none⟩ = some (.slice a n c) ∧ w'.cell? ⟨w.heap.size, 1, none⟩ = some (.int .i64 o.s) ∧ w'.cell? ⟨w.heap.size, 2, none⟩ = some (.int .i64 o.i))
      (first
      | (refine HSW.out _ ?_; repeat (first | exact Below.refl _ _ | exact HB4.out | refine below_drew ?_ | refine ext_alloc ?_ _ | refine ext_set ?_ (by first | exact Nat.le_refl _ | exact HB4.out.size)))
      | go_keep)
      (first
      | (go_at_call 50
         refine (HADD.out w0.drew (below_drew HB0.out)).mono ?_
         rintro e w4 ⟨v4, rfl, hn4, ho4, hb4⟩
         obtain ⟨a4, c4, rfl⟩ := hn4.form
         have HB4 : Hid (Below w0.heap.size w0 w4) := of_drew hb4
         have HN4 : Hid (Ns w4 (.slice a4 L1.length c4) L1) := hn4
         have HO4 : Hid (∀ k, (Value.slice a4 L1.length c4).ownBlock = some k → (Value.slice a n c).ownBlock = some k ∨ w.heap.size ≤ k) := fun k hk => (ho4 k hk).imp id (fun h => Nat.le_trans HB0.out.size h)
         clear hb4 hn4 ho4)
      | (go_at_call 50
         refine (HADD.out (w0.drew.alloc (.cells #[.bool false, .slice none 0 0] 69)) ((below_drew HB0.out).alloc HB0.out.size _)).mono ?_
         rintro e w4 ⟨v4, rfl, hn4, ho4, hb4⟩
         obtain ⟨a4, c4, rfl⟩ := hn4.form
         have hA4 : w4.heap[w0.heap.size]? = some (.cells #[.bool false, .slice none 0 0] 69 (0, 0)) := kept_block hb4 (heap_alloc_new w0.drew _)
         have HA4 : Hid (w4.heap[w0.heap.size]? = some (.cells #[.bool false, .slice none 0 0] 69 (0, 0))) := hA4
         obtain ⟨q0, q1⟩ := cells_2 hA4
         have f4 := free_of hA4
         have HB4 : Hid (Below w0.heap.size w0 w4) := xtrans2 ((below_drew (Below.refl _ _)).alloc (Nat.le_refl _) _) hb4
         have HN4 : Hid (Ns w4 (.slice a4 L1.length c4) L1) := hn4
         have HO4 : Hid (∀ k, (Value.slice a4 L1.length c4).ownBlock = some k → (Value.slice a n c).ownBlock = some k ∨ w0.heap.size + 1 ≤ k) := fun k hk => (ho4 k hk).imp id (fun h => by rw [World.size_alloc] at h; exact h)
         clear hb4 hA4 hn4 ho4))
    all_goals
      go_wp2_with fail
      go_meet
    case rel => exact ⟨_, a4, c4, rfl, rfl, HB4.out.size, heap_alloc_new _ _, HN4.out.below ((Below.refl _ _).alloc (Nat.le_refl _) _), HO4.out, ext_alloc HB4.out _⟩
    case rel => exact ⟨_, a4, c4, rfl, rfl, Nat.le_refl _, fill2 HA4.out, row_chg HN4.out (stX_chg w4 w0.heap.size (.slice a4 L1.length c4)) (fun k hk e => by
      have e' : k = w0.heap.size := e
      rcases HO4.out k hk with h | h
      · have h1 := (row_block HP.out.row k h).2
        have h2 := HB0.out.size
        omega
      · omega), fun k hk => (HO4.out k hk).imp id (fun h => by have := HB0.out.size; omega), ext_set (ext_set HB4.out (Nat.le_refl _)) (Nat.le_refl _)⟩
  case rest =>
    obtain ⟨g8, a8, c8, rfl, rfl, HG8, HA8, HN8, HO8, HB8⟩ := hcut
    clear a0 a1 a2 a3 a4 a5 c0 c1
    have HA5 : Hid (wc.heap[w.heap.size]? = some (.cells #[.int .i64 2, .int .i64 o.s, .int .i64 o.i, .string o.p, .int .i64 o.k, .int .i64 o.f] 72 (0, 0))) := kept_block HB8.out HA0.out
    have HX5 : Hid (wc.heap[X]? = some (.cells #[.bool false, .slice a n c] 69 (0, 0))) := kept_block HB8.out HX0.out
    have HBC : Hid (Below w.heap.size w wc) := xtrans2 HB0.out HB8.out
    obtain ⟨a0, a1, a2, a3, a4, a5⟩ := cells_6 HA5.out
    obtain ⟨c0, c1⟩ := cells_2 HX5.out
    obtain ⟨b0, b1⟩ := cells_2 HA8.out
    have fx := free_of HX5.out
    go_upto_region 9 with fail
    clear a0 a1 a2 a3 a4 a5 c0 c1 b0 b1 fx
    obtain ⟨W5, hW5⟩ : ∃ z, (wc.setCell ⟨X, 0, none⟩ (.bool false)).setCell ⟨X, 1, none⟩ (.slice a8 L1.length c8) = z := ⟨_, rfl⟩
    have HW5 : Hid (stX wc X (.slice a8 L1.length c8) = W5) := hW5
    have h5 : W5.heap[w.heap.size]? = some (.cells #[.int .i64 2, .int .i64 o.s, .int .i64 o.i, .string o.p, .int .i64 o.k, .int .i64 o.f] 72 (0, 0)) := by
      have := HXl.out
      rw [← hW5]
      exact other_blk (other_blk HA5.out (by omega)) (by omega)
    have HMI : Hid (At W5 K B L ∧ Ground W5) := by rw [← hW5]; exact HP.out.mid HBC.out
    rw [hW5]
    obtain ⟨a0, a1, a2, a3, a4, a5⟩ := cells_6 h5
    clear h5 hW5
    go_wp2_with (first
      | (go_at_call 19; refine Calls.mono (HAN.out _ HMI.out.1 HMI.out.2) ?_; rintro e w6 ⟨rfl, K', hA6, hE6⟩
         have HA6 : Hid (At w6 K' B L1) := hA6
         have HE6 : Hid (AtE (stX wc X (.slice a8 L1.length c8)) w6 K K') := by rw [HW5.out]; exact hE6
         clear hA6 hE6 a0 a1 a2 a3 a4 a5)
      | fail)
    go_ret
    exact ⟨by simp, K', .slice a8 L1.length c8, HP.out.turn HBC.out HN8.out HO8.out HA6.out HE6.out, plG HBC.out HE6.out HO8.out⟩
set_option maxHeartbeats 6400000 in
set_option maxRecDepth 100000 in
theorem playG_3 (K : Nat → Prop) (B X : Nat) (a : Option Addr) (c n : Nat) (L : List On) (o : On) (w : World) (hP : Pr w K B X (.slice a n c) L) (hn : L.length = n) (hlen : L.length ≤ 1000) (hwf : wfI o.s) :
    Calls Tryz.prog 25 #[ndV B, .pointer (some ⟨X, 0, none⟩), .agg #[.int .i64 3, .int .i64 o.s, .int .i64 o.i, .string o.p, .int .i64 o.k, .int .i64 o.f]] w fun e w' => e = .returned (.bool true) ∧ ∃ K' v', Pr w' K' B X v' (forO L o.s) ∧ PlG w w' K X K' (.slice a n c) v' := by
  have hl : n ≤ 100000 := by omega
  obtain ⟨w0, hw0⟩ : ∃ w0, w.alloc (.cells #[.int .i64 3, .int .i64 o.s, .int .i64 o.i, .string o.p, .int .i64 o.k, .int .i64 o.f] 72) = w0 := ⟨_, rfl⟩
  have HB0 : Hid (Below w.heap.size w w0) := by rw [← hw0]; exact (Below.refl _ _).alloc (Nat.le_refl _) _
  have hb0 : w0.heap[w.heap.size]? = some (.cells #[.int .i64 3, .int .i64 o.s, .int .i64 o.i, .string o.p, .int .i64 o.k, .int .i64 o.f] 72 (0, 0)) := by rw [← hw0]; exact heap_alloc_new _ _
  have HA0 : Hid (w0.heap[w.heap.size]? = some (.cells #[.int .i64 3, .int .i64 o.s, .int .i64 o.i, .string o.p, .int .i64 o.k, .int .i64 o.f] 72 (0, 0))) := hb0
  have HP : Hid (Pr w K B X (.slice a n c) L) := hP
  have HXl : Hid (X < w.heap.size) := hP.lt
  have HX0 : Hid (w0.heap[X]? = some (.cells #[.bool false, .slice a n c] 69 (0, 0))) := kept_block HB0.out hP.box
  have HSW : Hid (∀ w', Below w0.heap.size w0 w' → w'.cell? ⟨X, 0, none⟩ = some (.bool false) ∧ w'.cell? ⟨X, 1, none⟩ = some (.slice a n c) ∧ w'.cell? ⟨w.heap.size, 1, none⟩ = some (.int .i64 o.s)) := fun w' hb => by
    obtain ⟨a0, a1, a2, a3, a4, a5⟩ := cells_6 (kept_block hb HA0.out)
    obtain ⟨c0, c1⟩ := cells_2 (kept_block hb HX0.out)
    exact ⟨c0, c1, a1⟩
  obtain ⟨a0, a1, a2, a3, a4, a5⟩ := cells_6 hb0
  obtain ⟨c0, c1⟩ := cells_2 HX0.out
  obtain ⟨L1, hL1⟩ : ∃ L1, (forO L o.s) = L1 := ⟨_, rfl⟩
  obtain ⟨r, hr⟩ : ∃ r : Int, (((ofO L o.s).length : Nat)) = r := ⟨_, rfl⟩
  have HADD : Hid (∀ W, Below w.heap.size w W → Calls Tryz.prog 51 #[xVal (.slice a n c), .int .i64 o.s] W fun e w' => ∃ v, e = .returned (.tuple #[xVal v, .int .i64 r]) ∧ Ns w' v L1 ∧ (∀ k, v.ownBlock = some k → (Value.slice a n c).ownBlock = some k ∨ W.heap.size ≤ k) ∧ Below W.heap.size W w') := fun W hb => by
    have h1 := forget9 a c n L o.s W (HP.out.row.below hb) hn hl
    rw [hL1, hr] at h1
    exact h1
  have HAN : Hid (∀ W5, At W5 K B L → Ground W5 → Calls Tryz.prog 23 #[ndV B, .int .i64 o.s] W5 fun e w' => e = .returned (.int .i64 r) ∧ ∃ K', At w' K' B L1 ∧ AtE W5 w' K K') := fun W5 hA hg => by
    have h1 := forgetA W5 K B L o.s hA hg HP.out.gl hlen hwf
    rw [hL1, hr] at h1
    exact h1
  have HW : Hid (w.alloc (.cells #[.int .i64 3, .int .i64 o.s, .int .i64 o.i, .string o.p, .int .i64 o.k, .int .i64 o.f] 72) = w0) := hw0
  rw [hL1]
  clear hb0 hP hL1 hr hwf
  go_enter Tryz.func25, Tryz.ntmps25
  rw [← hw0] at a0 a1 a2 a3 a4 a5 c0 c1
  clear hw0
  go_upto_region 11 with fail
  rw [HW.out] at a0 a1 a2 a3 a4 a5 c0 c1 ⊢
  go_cut [11, 12] from 72 to 80 (fun s8 s9 wc => ∃ (g8 : Nat) (a8 : Option Addr) (c8 : Nat), s8 = .pointer (some ⟨g8, 0, none⟩) ∧ s9 = .int .i64 r ∧ Hid (w0.heap.size ≤ g8) ∧ Hid (wc.heap[g8]? = some (.cells #[.bool false, .slice a8 L1.length c8] 69 (0, 0))) ∧ Hid (Ns wc (.slice a8 L1.length c8) L1) ∧ Hid (∀ k, (Value.slice a8 L1.length c8).ownBlock = some k → (Value.slice a n c).ownBlock = some k ∨ w.heap.size ≤ k) ∧ Hid (Below w0.heap.size w0 wc))
  case first =>
    go_region_held3 (fun w' => w'.cell? ⟨X, 0, none⟩ = some (.bool false) ∧ w'.cell? ⟨X, 1, none⟩ = some (.slice a n c) ∧ w'.cell? ⟨w.heap.size, 1, none⟩ = some (.int .i64 o.s))
      (first
      | (refine HSW.out _ ?_; repeat (first | exact Below.refl _ _ | exact HB4.out | refine below_drew ?_ | refine ext_alloc ?_ _ | refine ext_set ?_ (by first | exact Nat.le_refl _ | exact HB4.out.size)))
      | go_keep)
      (first
      | (go_at_call 51
         refine (HADD.out w0.drew (below_drew HB0.out)).mono ?_
         rintro e w4 ⟨v4, rfl, hn4, ho4, hb4⟩
         obtain ⟨a4, c4, rfl⟩ := hn4.form
         have HB4 : Hid (Below w0.heap.size w0 w4) := of_drew hb4
         have HN4 : Hid (Ns w4 (.slice a4 L1.length c4) L1) := hn4
         have HO4 : Hid (∀ k, (Value.slice a4 L1.length c4).ownBlock = some k → (Value.slice a n c).ownBlock = some k ∨ w.heap.size ≤ k) := fun k hk => (ho4 k hk).imp id (fun h => Nat.le_trans HB0.out.size h)
         clear hb4 hn4 ho4)
      | (go_at_call 51
         refine (HADD.out (w0.drew.alloc (.cells #[.bool false, .slice none 0 0] 69)) ((below_drew HB0.out).alloc HB0.out.size _)).mono ?_
         rintro e w4 ⟨v4, rfl, hn4, ho4, hb4⟩
         obtain ⟨a4, c4, rfl⟩ := hn4.form
         have hA4 : w4.heap[w0.heap.size]? = some (.cells #[.bool false, .slice none 0 0] 69 (0, 0)) := kept_block hb4 (heap_alloc_new w0.drew _)
         have HA4 : Hid (w4.heap[w0.heap.size]? = some (.cells #[.bool false, .slice none 0 0] 69 (0, 0))) := hA4
         obtain ⟨q0, q1⟩ := cells_2 hA4
         have f4 := free_of hA4
         have HB4 : Hid (Below w0.heap.size w0 w4) := xtrans2 ((below_drew (Below.refl _ _)).alloc (Nat.le_refl _) _) hb4
         have HN4 : Hid (Ns w4 (.slice a4 L1.length c4) L1) := hn4
         have HO4 : Hid (∀ k, (Value.slice a4 L1.length c4).ownBlock = some k → (Value.slice a n c).ownBlock = some k ∨ w0.heap.size + 1 ≤ k) := fun k hk => (ho4 k hk).imp id (fun h => by rw [World.size_alloc] at h; exact h)
         clear hb4 hA4 hn4 ho4))
    all_goals
      go_wp2_with fail
      go_meet
    case rel => exact ⟨_, a4, c4, rfl, rfl, HB4.out.size, heap_alloc_new _ _, HN4.out.below ((Below.refl _ _).alloc (Nat.le_refl _) _), HO4.out, ext_alloc HB4.out _⟩
    case rel => exact ⟨_, a4, c4, rfl, rfl, Nat.le_refl _, fill2 HA4.out, row_chg HN4.out (stX_chg w4 w0.heap.size (.slice a4 L1.length c4)) (fun k hk e => by
      have e' : k = w0.heap.size := e
      rcases HO4.out k hk with h | h
      · have h1 := (row_block HP.out.row k h).2
        have h2 := HB0.out.size
        omega
      · omega), fun k hk => (HO4.out k hk).imp id (fun h => by have := HB0.out.size; omega), ext_set (ext_set HB4.out (Nat.le_refl _)) (Nat.le_refl _)⟩
  case rest =>
    obtain ⟨g8, a8, c8, rfl, rfl, HG8, HA8, HN8, HO8, HB8⟩ := hcut
    clear a0 a1 a2 a3 a4 a5 c0 c1
    have HA5 : Hid (wc.heap[w.heap.size]? = some (.cells #[.int .i64 3, .int .i64 o.s, .int .i64 o.i, .string o.p, .int .i64 o.k, .int .i64 o.f] 72 (0, 0))) := kept_block HB8.out HA0.out
    have HX5 : Hid (wc.heap[X]? = some (.cells #[.bool false, .slice a n c] 69 (0, 0))) := kept_block HB8.out HX0.out
    have HBC : Hid (Below w.heap.size w wc) := xtrans2 HB0.out HB8.out
    obtain ⟨a0, a1, a2, a3, a4, a5⟩ := cells_6 HA5.out
    obtain ⟨c0, c1⟩ := cells_2 HX5.out
    obtain ⟨b0, b1⟩ := cells_2 HA8.out
    have fx := free_of HX5.out
    go_upto_region 13 with fail
    clear a0 a1 a2 a3 a4 a5 c0 c1 b0 b1 fx
    obtain ⟨W5, hW5⟩ : ∃ z, (wc.setCell ⟨X, 0, none⟩ (.bool false)).setCell ⟨X, 1, none⟩ (.slice a8 L1.length c8) = z := ⟨_, rfl⟩
    have HW5 : Hid (stX wc X (.slice a8 L1.length c8) = W5) := hW5
    have h5 : W5.heap[w.heap.size]? = some (.cells #[.int .i64 3, .int .i64 o.s, .int .i64 o.i, .string o.p, .int .i64 o.k, .int .i64 o.f] 72 (0, 0)) := by
      have := HXl.out
      rw [← hW5]
      exact other_blk (other_blk HA5.out (by omega)) (by omega)
    have HMI : Hid (At W5 K B L ∧ Ground W5) := by rw [← hW5]; exact HP.out.mid HBC.out
    rw [hW5]
    obtain ⟨a0, a1, a2, a3, a4, a5⟩ := cells_6 h5
    clear h5 hW5
    go_wp2_with (first
      | (go_at_call 23; refine Calls.mono (HAN.out _ HMI.out.1 HMI.out.2) ?_; rintro e w6 ⟨rfl, K', hA6, hE6⟩
         have HA6 : Hid (At w6 K' B L1) := hA6
         have HE6 : Hid (AtE (stX wc X (.slice a8 L1.length c8)) w6 K K') := by rw [HW5.out]; exact hE6
         clear hA6 hE6 a0 a1 a2 a3 a4 a5)
      | fail)
    go_ret
    exact ⟨by simp, K', .slice a8 L1.length c8, HP.out.turn HBC.out HN8.out HO8.out HA6.out HE6.out, plG HBC.out HE6.out HO8.out⟩
end Go.Proofs.YtbblckcjedjbcaaGreatDoor.J
