/-
  heraldlaw5: turned, and that its list is new.
-/
import Derived.Test.YtaieijbdknfcjaaGreatDoorSTurned
namespace Go.Proofs.YtaieijbdknfcjaaGreatDoor
open Go.RowKit
set_option linter.unusedVariables false
set_option linter.unusedSimpArgs false

theorem wpList_appS {w : World} {ops : Array Oper} {rest : List Oper} {o : Oper} {act : Act} {Q : Exit → Act → World → Prop} (hgd : o.guard = none) (s x : Operand)
    (ho : o.op = .call { callee := .builtin .append, args := #[s, x], argTypes := #[22, 22] }) (base : Nat) (v : Value) (n : Nat) (xs : List Value) (hs : act.eval s = v) (hown : w.ownsRow base 36 3 v n xs)
    (ad : Option Addr) (m c : Nat) (ys : List SeenT) (hx : act.eval x = .slice ad m c) (hm : m = ys.length) (hby : Ss w ad ys) (hn : ad = none → c = 0) (hlen : n + ys.length ≤ 1000000) (hB : base ≤ w.heap.size)
    (h : ∀ v' w', w'.ownsRow base 36 3 v' (n + ys.length) (xs ++ seCs ys) → w.grownBy w' v.ownBlock → (v'.ownBlock = v.ownBlock ∨ v'.ownBlock = some w.heap.size) → wpList Tryz.prog ops Q rest (act.put o.dst v') w') : wpList Tryz.prog ops Q (o :: rest) act w := by
  obtain ⟨i0, hi, hz0, hz1, hz2⟩ := info_parts Tryz.infoS
  subst hm
  cases ad with
  | none =>
    have hc0 := hn rfl
    subst hc0
    have hys : ys = [] := by
      rcases hby with h | ⟨b, o, h, _⟩
      · exact h
      · cases h
    subst hys
    refine wpList_append_own_none hgd s x 22 ho base 36 i0 3 Tryz.underlying22 hi _ _ _ hs hown hx ?_
    have := h v w (by simpa [seCs] using hown) ⟨rfl, rfl, rfl, Nat.le_refl _, fun _ _ _ => rfl⟩ (.inl rfl)
    exact this
  | some ad =>
    refine wpList_append_own_at _ hgd s x 22 ho base 36 i0 _ 3 40 Tryz.underlying22 hi hz0 hz1 hz2 rfl (by decide) v n xs hs hown ad ys.length c (seCs ys) hx (seCs_len _) (ss_news hby) (seCs_one _) (by unfold maxLen; omega) (by omega) hB ?_
    intro v' w' ho' hg' _ hat'
    exact h v' w' ho' hg' hat'
set_option maxHeartbeats 3200000 in
set_option maxRecDepth 100000 in
theorem turned_new (base g cap : Nat) (st : Int) (p : ByteArray) (k : Int) (l : List SeenT) (w : World) (hr : w.ownsRow base 36 3 (.slice (some ⟨g, 0, none⟩) (l.length + 1) cap) (l.length + 1) (seCs l ++ markT.cells)) (hl : l.length ≤ 1000) :
    Calls Tryz.prog 9 #[.agg #[.int .i64 st, .string p, .int .i64 k, .slice (some ⟨g, 0, none⟩) l.length cap], .int .i64 0] w fun e w' => ∃ a c, e = .returned (.agg #[.int .i64 st, .string p, .int .i64 k, .slice a l.length c]) ∧ Ss w' a (l.map turn) ∧ (a = none → c = 0) ∧
      w'.ownsRow base 36 3 (.slice (some ⟨g, 0, none⟩) (l.length + 1) cap) (l.length + 1) (seCs (l.map turn) ++ markT.cells) ∧ Chg w w' (fun j => j = g) ∧ (∀ b o, a = some ⟨b, o, none⟩ → w.heap.size ≤ b) := by
  have hg := (hr.lt g rfl).2
  have HR : Hid (w.ownsRow base 36 3 (.slice (some ⟨g, 0, none⟩) (l.length + 1) cap) (l.length + 1) (seCs l ++ markT.cells)) := hr
  clear hr
  go_enter Tryz.func9, Tryz.ntmps9
  go_wp2_with fail
  go_loopw [6] (fun i wr => ∃ q : Nat, i = .int .i64 q ∧ q ≤ l.length ∧ Hid (wr.ownsRow base 36 3 (.slice (some ⟨g, 0, none⟩) (l.length + 1) cap) (l.length + 1) (seCs (upTo l q) ++ markT.cells)) ∧ Hid (wr.heap[w.heap.size]? = some (.cells #[.int .i64 st, .string p, .int .i64 k, .slice (some ⟨g, 0, none⟩) l.length cap] 24 (0, 0))) ∧ Hid (wr.heap[w.heap.size + 1]? = some (.cells #[.int .i64 0, .string ⟨#[]⟩, .int .i64 0, .slice none 0 0] 24 (0, 0))) ∧ Hid (Chg w wr (fun j => j = g))) (fun i _ => l.length - (intOf i).toNat)
  case atStart =>
    refine ⟨0, rfl, Nat.zero_le _, ?_, ?_, ?_, ?_⟩
    · show World.ownsRow _ _ _ _ _ _ _
      rw [upTo_zero]; exact World.ownsRow.alloc (World.ownsRow.alloc HR.out _) _
    · exact new_old (heap_alloc_new _ _) _
    · exact heap_new' (by simp)
    · exact (Chg.alloc _ _ _).trans (Chg.alloc _ _ _)
  case round =>
    obtain ⟨q, rfl, hq, HO, HA, HC, HG⟩ := hrel
    obtain ⟨a0, a1, a2, a3⟩ := cells_4 HA.out
    by_cases hlt : q < l.length
    · have hlt' : (q : Int) < (l.length : Int) := by omega
      have hx := upTo_at hlt
      have x1 := cell_n HO.out (seCs_at _ q 1 _ _ hx rfl _)
      have x2 := cell_n HO.out (seCs_at _ q 2 _ _ hx rfl _)
      have fz := blk_of HO.out
      have hne : ¬ w.heap.size = g := by omega
      have HO' : Hid _ := owns_set (k := q * 3 + 2) (owns_set (k := q * 3 + 1) HO.out (.string pT)) (.int .i64 7)
      clear hx
      go_wp2_with fail
      go_roundw
      case rel =>
        refine ⟨q + 1, by go_num, by omega, ?_, other_blk (other_blk HA.out hne) hne, other_blk (other_blk HC.out (by omega)) (by omega), (HG.out.trans (Chg.set _ _ _)).trans (Chg.set _ _ _)⟩
        have := HO'.out
        rw [upTo_step hlt] at this
        exact this
      case measure => simp [intOf]; omega
    · obtain rfl : q = l.length := by omega
      have hge : ¬ (l.length : Int) < (l.length : Int) := by omega
      rw [upTo_all] at HO
      have hsz : w.heap.size + 1 < wr.heap.size := lt_of_blk HC.out
      have HS : Hid (Ss wr (some ⟨g, 0, none⟩) (l.map turn)) := ss_of_owns HO.out
      have HML : Hid (l.length = (l.map turn).length) := by show _ = _; simp
      go_wp2_with (first
        | (at_builtin; refine wpList_appS rfl _ _ rfl base (.slice none 0 0) 0 [] rfl (World.ownsRow_nil _ _ _ _) (some ⟨g, 0, none⟩) l.length cap (l.map turn) rfl HML.out HS.out (fun h => by cases h) (by rw [← HML.out]; omega) (by have := (HO.out.lt g rfl); omega) ?_
           intro v1 w1 ho1 hg1 hat1
           have hmm : 0 + (l.map turn).length = l.length := by rw [← HML.out]; omega
           rw [hmm, List.nil_append] at ho1
           clear hmm
           obtain ⟨a9, c9, rfl, hn9⟩ := owns_form ho1
           have HO1 : Hid (w1.ownsRow base 36 3 (.slice a9 l.length c9) l.length (seCs (l.map turn))) := ho1
           have HN9 : Hid _ := hn9
           have HAT : Hid (∀ b o, a9 = some ⟨b, o, none⟩ → w.heap.size ≤ b) := fun b o hb => by
             subst hb
             have ho : (Value.slice (some ⟨b, o, none⟩) l.length c9).ownBlock = some b := rfl
             rw [ho] at hat1
             rcases hat1 with e | e
             · cases e
             · have := Option.some.inj e
               omega
           clear hn9
           have HG1 : Hid _ := hg1
           have HA1 : Hid (w1.heap[w.heap.size]? = some (.cells #[.int .i64 st, .string p, .int .i64 k, .slice (some ⟨g, 0, none⟩) l.length cap] 24 (0, 0))) := by show _ = _; rw [hg1.block _ (by omega) (fun h => by cases h)]; exact HA.out
           have HC1 : Hid (w1.heap[w.heap.size + 1]? = some (.cells #[.int .i64 0, .string ⟨#[]⟩, .int .i64 0, .slice none 0 0] 24 (0, 0))) := by show _ = _; rw [hg1.block _ (by omega) (fun h => by cases h)]; exact HC.out
           have c4 := cells_4 HA1.out
           have f4 := free_4 HA1.out
           have r4 := cells_4 HC1.out
           have fr4 := free_4 HC1.out
           clear ho1 hg1 hat1)
        | fail)
      have hC1 : Chg w1 (put_4 (w1.setCell ⟨w.heap.size, 3, none⟩ (.slice a9 l.length c9)) (w.heap.size + 1) (.int .i64 st) (.string p) (.int .i64 k) (.slice a9 l.length c9)) (fun j => j = w.heap.size ∨ j = w.heap.size + 1) :=
        (((((Chg.set w1 ⟨w.heap.size, 3, none⟩ _).mono (fun _ _ h => .inl h)).trans ((Chg.set _ ⟨w.heap.size + 1, 0, none⟩ _).mono (fun _ _ h => .inr h))).trans ((Chg.set _ ⟨w.heap.size + 1, 1, none⟩ _).mono (fun _ _ h => .inr h))).trans ((Chg.set _ ⟨w.heap.size + 1, 2, none⟩ _).mono (fun _ _ h => .inr h))).trans ((Chg.set _ ⟨w.heap.size + 1, 3, none⟩ _).mono (fun _ _ h => .inr h))
      have hnot : ∀ (v : Value) (n : Nat) (xs : List Value), w1.ownsRow base 36 3 v n xs → ∀ j, v.ownBlock = some j → ¬ (j = w.heap.size ∨ j = w.heap.size + 1) := fun v n xs hv j hj e => by
        obtain ⟨cur, hc⟩ := owns_kind hv hj
        rcases e with e | e
        · have := HA1.out
          rw [← e, hc] at this
          cases this
        · have := HC1.out
          rw [← e, hc] at this
          cases this
      have hrow1 : w1.ownsRow base 36 3 (.slice (some ⟨g, 0, none⟩) (l.length + 1) cap) (l.length + 1) (seCs (l.map turn) ++ markT.cells) := owns_same HO.out (fun j hj => HG1.out.block j (HO.out.lt j hj).2 (fun h => by cases h))
      have hO9 := owns_same HO1.out (fun j hj => hC1.block j (HO1.out.lt j hj).2 (hnot _ _ _ HO1.out j hj))
      have hOg := owns_same hrow1 (fun j hj => hC1.block j (hrow1.lt j hj).2 (hnot _ _ _ hrow1 j hj))
      refine bodyPost_ret (results_cell_row rfl _ _ (w.heap.size + 1) 24 _ (0, 0) _ rfl (fill_4 (other_blk HC1.out (by omega))) Tryz.underlying24 rfl (by kernel_rfl)) rfl ⟨a9, c9, rfl, ss_of_row hO9, HN9.out, hOg, ?_, HAT.out⟩
      have hgr : Chg wr w1 (fun j => j = g) := (Chg.grown HG1.out).mono (fun j _ h => by cases h)
      refine ⟨?_, ?_, ?_, ?_, fun j hj hn => ?_⟩
      · exact hC1.os.trans (hgr.os.trans HG.out.os)
      · exact hC1.tape.trans (hgr.tape.trans HG.out.tape)
      · exact hC1.output.trans (hgr.output.trans HG.out.output)
      · exact Nat.le_trans HG.out.size (Nat.le_trans hgr.size hC1.size)
      · rw [hC1.block j (by have := hgr.size; omega) (by omega), hgr.block j (by omega) hn, HG.out.block j hj hn]
end Go.Proofs.YtaieijbdknfcjaaGreatDoor
