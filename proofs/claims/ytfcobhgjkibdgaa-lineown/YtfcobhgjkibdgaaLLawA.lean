/-
  heraldlaw16: num, short, ints.
-/
import Derived.Test.YtfcobhgjkibdgaaLServe
namespace Go.Proofs.Ytfcobhgjkibdgaa
open Go.RowKit
set_option linter.unusedVariables false
set_option linter.unusedSimpArgs false

theorem num_any (x : Int) (w : World) : Calls Try.prog 15 #[.int .i64 x] w fun e w' => e = .returned (.int .i64 x) ∧ w' = w := by
  go_enter Try.func15, Try.ntmps15
  go_wp2_with fail
  go_ret
  exact ⟨rfl, rfl⟩
def cutB (b : ByteArray) : ByteArray := if 600 < b.size then b.extract 0 600 else b
def cutM (m : MsT) : MsT := ⟨m.f, m.t, cutB m.b⟩
def shL (l : List MsT) : List MsT := (l.take 300).map cutM
theorem cutB_size (b : ByteArray) : (cutB b).size ≤ 600 := by
  unfold cutB
  split
  · rw [ByteArray.size_extract]; omega
  · omega
theorem shL_small (l : List MsT) : ∀ m ∈ shL l, m.b.size ≤ 600 := fun m hm => by
  obtain ⟨x, _, rfl⟩ := List.mem_map.1 hm
  exact cutB_size x.b
theorem shL_len (l : List MsT) : (shL l).length ≤ 300 := by unfold shL; rw [List.length_map, List.length_take]; omega
theorem Try.info_ms : (Try.prog.info? 23).map (fun i => (i.zero, i.size, i.bytes)) = some (some (.agg #[.int .i64 0, .int .i64 0, .string ⟨#[]⟩]), 3, 32) := by kernel_rfl
abbrev MsRow (w : World) (B : Nat) (v : Value) (l : List MsT) : Prop := w.ownsRow B 23 3 v l.length (l.flatMap MsT.cells)
theorem ms_row {w : World} {B : Nat} {v : Value} {l : List MsT} {S : Nat → Prop} (h : MsRow w B v l) (hS : ∀ k, v.ownBlock = some k → S k) : MssAt w S v l := by
  obtain ⟨a, c, rfl, hc, hn, hr⟩ := row_cells (cells := MsT.cells) (fun _ => rfl) h
  refine ⟨a, c, rfl, hc, hn, ?_⟩
  rcases hr with h | ⟨g, rfl, ho, _, hlt, hx⟩
  · exact .inl h
  · exact .inr ⟨g, 0, rfl, hS g ho, hlt, fun i x hi => ⟨hx i x hi 0 _ rfl, hx i x hi 1 _ rfl, hx i x hi 2 _ rfl⟩⟩
set_option maxHeartbeats 3200000 in
set_option maxRecDepth 100000 in
theorem short_any (l : List MsT) (v : Value) (w : World) (P : Nat → Prop) (hl : MssAt w P v l) :
    Calls Try.prog 9 #[v] w fun e w' => ∃ u, e = .returned u ∧ MsRow w' w.heap.size u (shL l) ∧ Below w.heap.size w w' := by
  obtain ⟨ma, mc, rfl, _⟩ := RowAt.form hl
  obtain ⟨mn, hmn⟩ : ∃ z, l.length = z := ⟨_, rfl⟩
  rw [hmn] at hl ⊢
  have HMN : Hid (l.length = mn) := hmn
  have HMS : Hid (MssAt w (fun j => j < w.heap.size ∧ P j) (.slice ma mn mc) l) := RowAt.map hl (Nat.le_refl _) (fun b hb hP => ⟨hb, hP⟩) (fun _ _ _ _ _ h => h)
  clear hmn hl
  go_enter Try.func9, Try.ntmps9
  go_wp2_with fail
  go_loopw [3, 4, 5] (fun nv i _ wr => ∃ q : Nat, i = .int .i64 q ∧ q ≤ mn ∧ q ≤ 300 ∧ Hid (wr.ownsRow w.heap.size 23 3 nv q (((l.take q).map cutM).flatMap MsT.cells) ∧ Below w.heap.size w wr)) (fun _ i _ _ => mn - (intOf i).toNat)
  case atStart => exact ⟨0, rfl, Nat.zero_le _, Nat.zero_le _, owns_nil _ _ _ _, Below.refl _ _⟩
  case round =>
    obtain ⟨q, rfl, hq, hq3, HI⟩ := hrel
    by_cases hlt : q < mn
    · have hqi : (q : Int) < (mn : Int) := by omega
      by_cases h3 : q < 300
      · have h3i : (q : Int) < 300 := by omega
        obtain ⟨x, hx⟩ : ∃ x, l[q]? = some x := ⟨l[q]'(by rw [HMN.out]; exact hlt), List.getElem?_eq_getElem _⟩
        obtain ⟨mb, mo, rfl, ⟨hmb, _⟩, _, hE⟩ := RowAt.get HMS.out hx
        have k : ∀ {o v}, w.cell? ⟨mb, o, none⟩ = some v → wr.cell? ⟨mb, o, none⟩ = some v := fun hv => by rw [HI.out.2.cell (p := ⟨mb, _, none⟩) hmb]; exact hv
        have x0 := k hE.f
        have x1 := k hE.t
        have x2 := k hE.b
        have HT : Hid (((l.take q).map cutM).flatMap MsT.cells ++ (cutM x).cells = ((l.take (q + 1)).map cutM).flatMap MsT.cells) := by show _ = _; rw [take_at hx, List.map_append, List.flatMap_append]; rfl
        obtain ⟨W5, hW5⟩ : ∃ z, wr.alloc (.cells #[.int .i64 x.f, .int .i64 x.t, .string x.b] 23) = z := ⟨_, rfl⟩
        obtain ⟨g5, hg5⟩ : ∃ z, wr.heap.size = z := ⟨_, rfl⟩
        have hA5 : W5.heap[g5]? = some (.cells #[.int .i64 x.f, .int .i64 x.t, .string x.b] 23 (0, 0)) := by rw [← hW5, ← hg5]; exact heap_alloc_new _ _
        have hb5 : Below wr.heap.size wr W5 := by rw [← hW5]; exact (Below.refl _ _).alloc (Nat.le_refl _) _
        have HA5 : Hid _ := hA5
        have HR5 : Hid (W5.ownsRow w.heap.size 23 3 u3 q (((l.take q).map cutM).flatMap MsT.cells) ∧ Below w.heap.size w W5 ∧ ∀ j, u3.ownBlock = some j → j ≠ g5) := ⟨owns_below HI.out.1 hb5, trans2 HI.out.2 hb5, fun j hj e => by have := (row_block HI.out.1 j hj).2; omega⟩
        have HGW : Hid (w.heap.size ≤ g5) := by show _ ≤ _; rw [← hg5]; exact HI.out.2.size
        have HW5 : Hid (_ = W5) := hW5
        have HG5 : Hid (wr.heap.size = g5) := hg5
        clear hx hE k hmb hW5 hA5 hb5 hg5
        go_upto_region 6 with fail
        rw [HW5.out, HG5.out]
        clear x0 x1 x2
        obtain ⟨e0, e1, e2⟩ := cells_3 HA5.out
        have f5 := free_of HA5.out
        by_cases h6 : 600 < x.b.size
        · have h6i : (600 : Int) < (x.b.size : Int) := by omega
          have HC : Hid (cutM x = ⟨x.f, x.t, x.b.extract 0 600⟩) := by show _ = _; unfold cutM cutB; rw [if_pos h6]
          clear h6
          go_upto_region 8 with fail
          obtain ⟨W6, hW6⟩ : ∃ z, W5.setCell ⟨g5, 2, none⟩ (.string (x.b.extract 0 600)) = z := ⟨_, rfl⟩
          have hc6 : Chg W5 W6 (fun k => k = g5) := by rw [← hW6]; exact Chg.set W5 ⟨g5, 2, none⟩ _
          have hA6 : W6.heap[g5]? = some (.cells #[.int .i64 x.f, .int .i64 x.t, .string (x.b.extract 0 600)] 23 (0, 0)) := by rw [← hW6]; exact same_blk HA5.out rfl
          have HR6 : Hid (W6.ownsRow w.heap.size 23 3 u3 q (((l.take q).map cutM).flatMap MsT.cells) ∧ Below w.heap.size w W6) := ⟨row_chg HR5.out.1 hc6 (fun j hj e => HR5.out.2.2 j hj e), by rw [← hW6]; exact ext_set HR5.out.2.1 HGW.out⟩
          rw [hW6]
          rw [HC.out] at HT
          clear e0 e1 e2 f5 hc6 hW6
          obtain ⟨e0, e1, e2⟩ := cells_3 hA6
          clear hA6
          go_wp2_with (first
            | (at_builtin; refine wpList_row Try.underlying24 Try.info_ms rfl (by decide) rfl _ _ rfl w.heap.size u3 q _ rfl (owns_below HR6.out.1 ((Below.refl _ _).alloc (Nat.le_refl _) _)) W6.heap.size 1 (MsT.cells ⟨x.f, x.t, x.b.extract 0 600⟩) rfl (heap_alloc_new _ _) rfl (by simp [Value.oneCell']) (by unfold maxLen; omega) (by omega) (by rw [World.size_alloc]; have := HR6.out.2.size; omega) ?_
               intro v6 w6 hd6 hg6 ho6
               have hal : Below W6.heap.size W6 (W6.alloc (.cells (MsT.cells ⟨x.f, x.t, x.b.extract 0 600⟩).toArray 23)) := (Below.refl _ _).alloc (Nat.le_refl _) _
               have HS6 : Hid (w6.ownsRow w.heap.size 23 3 v6 (q + 1) (((l.take (q + 1)).map cutM).flatMap MsT.cells) ∧ Below w.heap.size w w6) := by
                 refine ⟨?_, grown_in (trans2 HR6.out.2 hal) hg6 (fun k hk => (row_block HR6.out.1 k hk).1) (Nat.le_refl _)⟩
                 rw [← HT.out]
                 exact hd6
               clear hd6 hg6 ho6 hal))
          go_roundw
          case rel => exact ⟨q + 1, by go_num, by omega, by omega, HS6⟩
          case measure => simp [intOf]; omega
        · have h6i : ¬ (600 : Int) < (x.b.size : Int) := by omega
          have HC : Hid (cutM x = x) := by show _ = _; unfold cutM cutB; rw [if_neg h6]
          rw [HC.out] at HT
          clear h6
          go_wp2_with (first
            | (at_builtin; refine wpList_row Try.underlying24 Try.info_ms rfl (by decide) rfl _ _ rfl w.heap.size u3 q _ rfl (owns_below HR5.out.1 ((Below.refl _ _).alloc (Nat.le_refl _) _)) W5.heap.size 1 x.cells rfl (heap_alloc_new _ _) rfl (by simp [Value.oneCell']) (by unfold maxLen; omega) (by omega) (by rw [World.size_alloc]; have := HR5.out.2.1.size; omega) ?_
               intro v6 w6 hd6 hg6 ho6
               have hal : Below W5.heap.size W5 (W5.alloc (.cells x.cells.toArray 23)) := (Below.refl _ _).alloc (Nat.le_refl _) _
               have HS6 : Hid (w6.ownsRow w.heap.size 23 3 v6 (q + 1) (((l.take (q + 1)).map cutM).flatMap MsT.cells) ∧ Below w.heap.size w w6) := by
                 refine ⟨?_, grown_in (trans2 HR5.out.2.1 hal) hg6 (fun k hk => (row_block HR5.out.1 k hk).1) (Nat.le_refl _)⟩
                 rw [← HT.out]
                 exact hd6
               clear hd6 hg6 ho6 hal))
          go_roundw
          case rel => exact ⟨q + 1, by go_num, by omega, by omega, HS6⟩
          case measure => simp [intOf]; omega
      · have h3i : ¬ (q : Int) < 300 := by omega
        obtain rfl : q = 300 := by omega
        have HR : Hid (MsRow wr w.heap.size u3 (shL l)) := by
          show World.ownsRow _ _ _ _ _ _ _
          have : (shL l).length = 300 := by unfold shL; rw [List.length_map, List.length_take, HMN.out]; omega
          rw [this]
          exact HI.out.1
        go_wp2_with fail
        go_ret
        exact ⟨_, rfl, HR.out, HI.out.2⟩
    · obtain rfl : q = mn := by omega
      have hge : ¬ (q : Int) < (q : Int) := by omega
      have HR : Hid (MsRow wr w.heap.size u3 (shL l)) := by
        show World.ownsRow _ _ _ _ _ _ _
        have h1 : l.take 300 = l.take q := by rw [List.take_of_length_le (by rw [HMN.out]; exact hq3), List.take_of_length_le (by rw [HMN.out]; exact Nat.le_refl _)]
        have : (shL l).length = q := by unfold shL; rw [List.length_map, h1, List.length_take, HMN.out]; omega
        rw [this]
        unfold shL
        rw [h1]
        exact HI.out.1
      go_wp2_with fail
      go_ret
      exact ⟨_, rfl, HR.out, HI.out.2⟩
theorem flat_one : ∀ l : List Int, l.flatMap (fun x => [Value.int .i64 x]) = l.map (.int .i64 ·)
  | [] => rfl
  | x :: l => by rw [List.flatMap_cons, flat_one l]; rfl
theorem ins_at {w : World} {B : Nat} {v : Value} {l : List Int} {S : Nat → Prop} (h : InsOwn w B v l) (hS : ∀ k, v.ownBlock = some k → S k) : IntsAt w S v l := by
  have h' : w.ownsRow B 3 1 v l.length (l.flatMap fun x => [.int .i64 x]) := by
    rw [flat_one]
    exact h
  obtain ⟨a, c, rfl, hc, hn, hr⟩ := row_cells (cells := fun x : Int => [Value.int .i64 x]) (fun _ => rfl) h'
  refine ⟨a, c, rfl, hc, hn, ?_⟩
  rcases hr with h | ⟨g, rfl, ho, _, hlt, hx⟩
  · exact .inl h
  · exact .inr ⟨g, 0, rfl, hS g ho, hlt, fun i x hi => hx i x hi 0 _ rfl⟩
set_option maxHeartbeats 3200000 in
set_option maxRecDepth 100000 in
theorem ints_same (l : List Int) (v u : Value) (w : World) (S T : Nat → Prop) (h1 : IntsAt w S v l) (h2 : IntsAt w T u l) (hl : l.length ≤ 1000000) :
    Calls Try.prog 26 #[v, u] w fun e w' => e = .returned (.bool true) ∧ Below w.heap.size w w' := by
  obtain ⟨a, c, rfl, _⟩ := RowAt.form h1
  obtain ⟨a', c', rfl, _⟩ := RowAt.form h2
  obtain ⟨n, hn⟩ : ∃ z, l.length = z := ⟨_, rfl⟩
  rw [hn] at h1 h2 hl ⊢
  have HN : Hid (l.length = n) := hn
  have H1 : Hid (IntsAt w S (.slice a n c) l) := h1
  have H2 : Hid (IntsAt w T (.slice a' n c') l) := h2
  clear hn h1 h2
  go_enter Try.func26, Try.ntmps26
  go_wp2_with fail
  go_loopw [5] (fun i wr => ∃ q : Nat, i = .int .i64 q ∧ q ≤ n ∧ Hid (Below w.heap.size w wr)) (fun i _ => n - (intOf i).toNat)
  case atStart => exact ⟨0, rfl, Nat.zero_le _, Below.refl _ _⟩
  case round =>
    obtain ⟨q, rfl, hq, HB⟩ := hrel
    by_cases hlt : q < n
    · have hqi : (q : Int) < (n : Int) := by omega
      obtain ⟨x, hx⟩ : ∃ x, l[q]? = some x := ⟨l[q]'(by rw [HN.out]; exact hlt), List.getElem?_eq_getElem _⟩
      obtain ⟨b1, o1, rfl, _, hb1, y1⟩ := RowAt.get (IntsAt.keep H1.out (Kp.of_below HB.out _)) hx
      obtain ⟨b2, o2, rfl, _, hb2, y2⟩ := RowAt.get (IntsAt.keep H2.out (Kp.of_below HB.out _)) hx
      have y1 : wr.cell? ⟨b1, o1 + q, none⟩ = some (.int .i64 x) := by simpa [inE] using y1
      have y2 : wr.cell? ⟨b2, o2 + q, none⟩ = some (.int .i64 x) := by simpa [inE] using y2
      clear hx hb1 hb2
      go_upto_region 6 with fail
      go_quiet (fail)
      go_wp2_with fail
      go_roundw
      case rel => exact ⟨q + 1, by go_num, by omega, below_drewN HB.out _⟩
      case measure => simp [intOf]; omega
    · obtain rfl : q = n := by omega
      have hge : ¬ (q : Int) < (q : Int) := by omega
      go_wp2_with fail
      go_ret
      exact ⟨rfl, HB.out⟩
end Go.Proofs.Ytfcobhgjkibdgaa
