/-
  shot: turned.
-/
import Derived.Test.YtkmiemjjedbnaaaDoorSTurn
namespace Go.Proofs.YtkmiemjjedbnaaaDoor
open Go.RowKit
set_option linter.unusedVariables false
set_option linter.unusedSimpArgs false

theorem owns_form {w : World} {B e s n : Nat} {v : Value} {xs : List Value} (h : w.ownsRow B e s v n xs) : ∃ a c, v = .slice a n c ∧ (a = none → c = 0) := by
  rcases h.2 with ⟨rfl, rfl⟩ | ⟨g, cap, cur, rfl, _⟩
  · exact ⟨none, 0, rfl, fun _ => rfl⟩
  · exact ⟨_, _, rfl, fun h => by cases h⟩
theorem ss_of_row {w : World} {base n c : Nat} {a : Option Addr} {l : List SeenT} (h : w.ownsRow base 38 3 (.slice a n c) n (seCs l)) : Ss w a l := by
  cases a with
  | none =>
    rcases h.2 with ⟨_, rfl⟩ | ⟨g, cap, cur, hv, _⟩
    · have := h.1
      rw [seCs_len] at this
      exact .inl (List.eq_nil_of_length_eq_zero (by omega))
    · cases hv
  | some ad =>
    rcases h.2 with ⟨hv, _⟩ | ⟨g, cap, cur, hv, _⟩
    · cases hv
    · cases hv
      exact ss_of_owns (rest := []) (by rw [List.append_nil]; exact h)
theorem ss_chg {w w' : World} {S : Nat → Prop} {a : Option Addr} {l : List SeenT} (h : Ss w a l) (hc : Chg w w' S) (hs : ∀ b o, a = some ⟨b, o, none⟩ → ¬ S b) : Ss w' a l := by
  rcases h with h | ⟨b, o, ha, hlt, hx⟩
  · exact .inl h
  · refine .inr ⟨b, o, ha, Nat.lt_of_lt_of_le hlt hc.size, fun i s hi j x hj => ?_⟩
    rw [World.cell?_of_block (w := w) (hc.block b hlt (hs b o ha))]
    exact hx i s hi j x hj

set_option maxHeartbeats 3200000 in
set_option maxRecDepth 100000 in
theorem turned_any (base g cap : Nat) (st : Int) (p : ByteArray) (k : Int) (l : List SeenT) (w : World) (hr : w.ownsRow base 38 3 (.slice (some ⟨g, 0, none⟩) (l.length + 1) cap) (l.length + 1) (seCs l ++ markT.cells)) (hl : l.length ≤ 1000) :
    Calls Tryd.prog 8 #[.agg #[.int .i64 st, .string p, .int .i64 k, .slice (some ⟨g, 0, none⟩) l.length cap], .int .i64 0] w fun e w' => ∃ a c, e = .returned (.agg #[.int .i64 st, .string p, .int .i64 k, .slice a l.length c]) ∧ Ss w' a (l.map turn) ∧ (a = none → c = 0) ∧
      w'.ownsRow base 38 3 (.slice (some ⟨g, 0, none⟩) (l.length + 1) cap) (l.length + 1) (seCs (l.map turn) ++ markT.cells) ∧ Chg w w' (fun j => j = g) := by
  have hg := (hr.lt g rfl).2
  have HR : Hid (w.ownsRow base 38 3 (.slice (some ⟨g, 0, none⟩) (l.length + 1) cap) (l.length + 1) (seCs l ++ markT.cells)) := hr
  clear hr
  go_enter Tryd.func8, Tryd.ntmps8
  go_wp2_with fail
  go_loopw [6] (fun i wr => ∃ q : Nat, i = .int .i64 q ∧ q ≤ l.length ∧ Hid (wr.ownsRow base 38 3 (.slice (some ⟨g, 0, none⟩) (l.length + 1) cap) (l.length + 1) (seCs (upTo l q) ++ markT.cells)) ∧ Hid (wr.heap[w.heap.size]? = some (.cells #[.int .i64 st, .string p, .int .i64 k, .slice (some ⟨g, 0, none⟩) l.length cap] 24 (0, 0))) ∧ Hid (wr.heap[w.heap.size + 1]? = some (.cells #[.int .i64 0, .string ⟨#[]⟩, .int .i64 0, .slice none 0 0] 24 (0, 0))) ∧ Hid (Chg w wr (fun j => j = g))) (fun i _ => l.length - (intOf i).toNat)
  case atStart =>
    refine ⟨0, rfl, Nat.zero_le _, ?_, ?_, ?_, ?_⟩
    · show World.ownsRow _ _ _ _ _ _ _
      rw [upTo_zero]; exact World.ownsRow.alloc (World.ownsRow.alloc HR.out _) _
    · exact new_old (heap_alloc_new _ _) _
    · exact heap_new' (by simp)
    · exact (Chg.alloc _ _ _).trans (Chg.alloc _ _ _)
  case round =>
    obtain ⟨q, rfl, hq, HO, HA, HC, HG⟩ := hrel
    obtain ⟨a0, a1, a2, a3⟩ := cells_4 HA.out
    by_cases hlt : q < l.length
    · have hlt' : (q : Int) < (l.length : Int) := by omega
      have hx := upTo_at hlt
      have x1 := cell_n HO.out (seCs_at _ q 1 _ _ hx rfl _)
      have x2 := cell_n HO.out (seCs_at _ q 2 _ _ hx rfl _)
      have fz := blk_of HO.out
      have hne : ¬ w.heap.size = g := by omega
      have HO' : Hid _ := owns_set (k := q * 3 + 2) (owns_set (k := q * 3 + 1) HO.out (.string pT)) (.int .i64 7)
      clear hx
      go_wp2_with fail
      go_roundw
      case rel =>
        refine ⟨q + 1, by go_num, by omega, ?_, other_blk (other_blk HA.out hne) hne, other_blk (other_blk HC.out (by omega)) (by omega), (HG.out.trans (Chg.set _ _ _)).trans (Chg.set _ _ _)⟩
        have := HO'.out
        rw [upTo_step hlt] at this
        exact this
      case measure => simp [intOf]; omega
    · obtain rfl : q = l.length := by omega
      have hge : ¬ (l.length : Int) < (l.length : Int) := by omega
      rw [upTo_all] at HO
      have hsz : w.heap.size + 1 < wr.heap.size := lt_of_blk HC.out
      have HS : Hid (Ss wr (some ⟨g, 0, none⟩) (l.map turn)) := ss_of_owns HO.out
      have HML : Hid (l.length = (l.map turn).length) := by show _ = _; simp
      go_wp2_with (first
        | (at_builtin; refine wpList_app rfl _ _ rfl base (.slice none 0 0) 0 [] rfl (World.ownsRow_nil _ _ _ _) (some ⟨g, 0, none⟩) l.length cap (l.map turn) rfl HML.out HS.out (fun h => by cases h) (by rw [← HML.out]; omega) (by have := (HO.out.lt g rfl); omega) ?_
           intro v1 w1 ho1 hg1
           have hmm : 0 + (l.map turn).length = l.length := by rw [← HML.out]; omega
           rw [hmm, List.nil_append] at ho1
           clear hmm
           obtain ⟨a9, c9, rfl, hn9⟩ := owns_form ho1
           have HO1 : Hid (w1.ownsRow base 38 3 (.slice a9 l.length c9) l.length (seCs (l.map turn))) := ho1
           have HN9 : Hid _ := hn9
           clear hn9
           have HG1 : Hid _ := hg1
           have HA1 : Hid (w1.heap[w.heap.size]? = some (.cells #[.int .i64 st, .string p, .int .i64 k, .slice (some ⟨g, 0, none⟩) l.length cap] 24 (0, 0))) := by show _ = _; rw [hg1.block _ (by omega) (fun h => by cases h)]; exact HA.out
           have HC1 : Hid (w1.heap[w.heap.size + 1]? = some (.cells #[.int .i64 0, .string ⟨#[]⟩, .int .i64 0, .slice none 0 0] 24 (0, 0))) := by show _ = _; rw [hg1.block _ (by omega) (fun h => by cases h)]; exact HC.out
           have c4 := cells_4 HA1.out
           have f4 := free_4 HA1.out
           have r4 := cells_4 HC1.out
           have fr4 := free_4 HC1.out
           clear ho1 hg1)
        | fail)
      have hC1 : Chg w1 (put_4 (w1.setCell ⟨w.heap.size, 3, none⟩ (.slice a9 l.length c9)) (w.heap.size + 1) (.int .i64 st) (.string p) (.int .i64 k) (.slice a9 l.length c9)) (fun j => j = w.heap.size ∨ j = w.heap.size + 1) :=
        (((((Chg.set w1 ⟨w.heap.size, 3, none⟩ _).mono (fun _ _ h => .inl h)).trans ((Chg.set _ ⟨w.heap.size + 1, 0, none⟩ _).mono (fun _ _ h => .inr h))).trans ((Chg.set _ ⟨w.heap.size + 1, 1, none⟩ _).mono (fun _ _ h => .inr h))).trans ((Chg.set _ ⟨w.heap.size + 1, 2, none⟩ _).mono (fun _ _ h => .inr h))).trans ((Chg.set _ ⟨w.heap.size + 1, 3, none⟩ _).mono (fun _ _ h => .inr h))
      have hnot : ∀ (v : Value) (n : Nat) (xs : List Value), w1.ownsRow base 38 3 v n xs → ∀ j, v.ownBlock = some j → ¬ (j = w.heap.size ∨ j = w.heap.size + 1) := fun v n xs hv j hj e => by
        obtain ⟨cur, hc⟩ := owns_kind hv hj
        rcases e with e | e
        · have := HA1.out
          rw [← e, hc] at this
          cases this
        · have := HC1.out
          rw [← e, hc] at this
          cases this
      have hrow1 : w1.ownsRow base 38 3 (.slice (some ⟨g, 0, none⟩) (l.length + 1) cap) (l.length + 1) (seCs (l.map turn) ++ markT.cells) := owns_same HO.out (fun j hj => HG1.out.block j (HO.out.lt j hj).2 (fun h => by cases h))
      have hO9 := owns_same HO1.out (fun j hj => hC1.block j (HO1.out.lt j hj).2 (hnot _ _ _ HO1.out j hj))
      have hOg := owns_same hrow1 (fun j hj => hC1.block j (hrow1.lt j hj).2 (hnot _ _ _ hrow1 j hj))
      refine bodyPost_ret (results_cell_row rfl _ _ (w.heap.size + 1) 24 _ (0, 0) _ rfl (fill_4 (other_blk HC1.out (by omega))) Tryd.underlying24 rfl (by kernel_rfl)) rfl ⟨a9, c9, rfl, ss_of_row hO9, HN9.out, hOg, ?_⟩
      have hgr : Chg wr w1 (fun j => j = g) := (Chg.grown HG1.out).mono (fun j _ h => by cases h)
      refine ⟨?_, ?_, ?_, ?_, fun j hj hn => ?_⟩
      · exact hC1.os.trans (hgr.os.trans HG.out.os)
      · exact hC1.tape.trans (hgr.tape.trans HG.out.tape)
      · exact hC1.output.trans (hgr.output.trans HG.out.output)
      · exact Nat.le_trans HG.out.size (Nat.le_trans hgr.size hC1.size)
      · rw [hC1.block j (by have := hgr.size; omega) (by omega), hgr.block j (by omega) hn, HG.out.block j hj hn]
end Go.Proofs.YtkmiemjjedbnaaaDoor
