/-
  view: Promote makes the next view.
-/
import Derived.Test.YtlbhnlpdijhmlaaVSrv5
namespace Go.Proofs.Ytlbhnlpdijhmlaa
open Go.RowKit Go.MuLone
set_option linter.unusedVariables false
set_option linter.unusedSimpArgs false

theorem enters_now : ∀ args w, (callFunc 27 args).run Try.prog w = .ok (.enter 27 args) w := enters_of Try.func27 (by kernel_rfl) rfl
/-- One more view behind the others: what lies in memory then. -/
theorem prom_app {w w' : World} {b : Nat} {V : SvT} {v v' : Value} {p q : Int} (h : SrvAt w b 1 V v) (hs : V.set = true) (ht : V.promC p q = 0) (hr : w'.ownsRow 0 28 3 v' (V.l.length + 1) (V.l.flatMap vwCs ++ [.int .i64 ((lastV V.l).n + 1), .int .i64 p, .int .i64 q])) (hg : w.grownBy w' v.ownBlock) (hat : v'.ownBlock = v.ownBlock ∨ v'.ownBlock = some w.heap.size) :
    SrvAt (w'.setCell ⟨b, 3, none⟩ v') b 1 ⟨V.nodes, V.l ++ [⟨(lastV V.l).n + 1, p, q⟩], true⟩ v' ∧ Chg w (w'.setCell ⟨b, 3, none⟩ v') (fun j => j = b ∨ v.ownBlock = some j) ∧ ∀ j, v'.ownBlock = some j → v.ownBlock = some j ∨ w.heap.size ≤ j := by
  have hk := h.ok.prom p q
  have e0 : V.prom p q = ⟨V.nodes, V.l ++ [⟨(lastV V.l).n + 1, p, q⟩], false⟩ := by unfold SvT.prom; rw [if_pos ht]
  rw [e0] at hk
  have hb := h.lt
  have hap : v'.ownBlock ≠ some b := fun e => by
    rcases hat with h1 | h1
    · exact h.apart (by rw [← h1]; exact e)
    · rw [h1] at e; cases e; omega
  have hx : w'.heap[b]? = some (.cells #[.int .i64 V.nodes, .int .i32 1, .int .u32 0, v, .bool true] 70 (0, 0)) := by
    rw [hg.block b hb (fun e => h.apart e.symm), h.box, hs]
  refine ⟨⟨⟨hk.nodes, hk.len, hk.num, hk.chain, fun e => by simp at e⟩, same_blk hx rfl, ?_, hap⟩, ?_, fun j hj => ?_⟩
  · have h9 : w'.ownsRow 0 28 3 v' (V.l ++ [(⟨(lastV V.l).n + 1, p, q⟩ : VwT)]).length ((V.l ++ [(⟨(lastV V.l).n + 1, p, q⟩ : VwT)]).flatMap vwCs) := by simpa using hr
    exact owns_same h9 (fun j hj => Below.heap_setCell w' ⟨b, 3, none⟩ v' j (fun e => hap (by rw [hj, e])))
  · exact ((Chg.grown hg).mono (fun _ _ h => .inr h)).trans ((Chg.set _ _ _).mono (fun _ _ h => .inl h))
  · rcases hat with h1 | h1
    · exact .inl (by rw [← h1]; exact hj)
    · rw [h1] at hj; cases hj; exact .inr (Nat.le_refl _)
set_option maxHeartbeats 25600000 in
set_option maxRecDepth 100000 in
theorem promp_ok (b : Nat) (V : SvT) (v : Value) (p q : Int) (w : World) (h : SrvAt w b 0 V v) (hok : V.promC p q = 0) :
    Calls Try.prog 13 #[.pointer (some ⟨b, 0, none⟩), .int .i64 p, .int .i64 q] w fun e w' => e = .returned (.int .i64 (V.promC p q)) ∧ PrE w b (V.prom p q) v w' := by
  have hs : V.set = true := by
    cases hs : V.set with
    | true => rfl
    | false => rw [(SvT.prom_un hs p q).1] at hok; cases hok
  have h0 : V.nodes ≠ 0 := fun e => by rw [(h.ok.none e).2] at hs; cases hs
  have hne := h.ok.some h0
  have hpp : ¬ (p = 0 ∨ (p ≠ (lastV V.l).p ∧ p ≠ (lastV V.l).b) ∨ q < 0 ∨ V.nodes < q ∨ p = q) ∧ ¬ 401 ≤ V.l.length := by
    unfold SvT.promC at hok
    rw [if_neg (by rw [hs]; decide)] at hok
    split at hok
    · cases hok
    · rename_i h1
      split at hok
      · cases hok
      · rename_i h2; exact ⟨h1, h2⟩
  have hla := h.ok.last hne
  have HS : Hid (SrvAt w b 0 V v) := h
  have HOK : Hid (V.promC p q = 0) := hok
  have HSET : Hid (V.set = true) := hs
  have HNE : Hid (V.l ≠ []) := hne
  have HN : Hid ((V.nodes == 0) = false) := by show _ = false; simpa using h0
  have hl := h.locked 1
  have hMF := mayFollow_any b 1 V v p q _ hl hne
  rw [decide_eq_true hpp.1] at hMF
  have hx := hl.box
  obtain ⟨W, hW⟩ : ∃ W, w.setCell ⟨b, 1, none⟩ (.int .i32 1) = W := ⟨_, rfl⟩
  have HW : Hid (w.setCell ⟨b, 1, none⟩ (.int .i32 1) = W) := hW
  have HCW : Hid (Chg w W (fun j => j = b)) := by show Chg _ _ _; rw [← hW]; exact Chg.set _ _ _
  rw [hW] at hl hx hMF
  have HL : Hid (SrvAt W b 1 V v) := hl
  have HMF : Hid _ := hMF
  have c4 := (cells_5 hx).2.2.2.2
  rw [hs] at c4
  obtain ⟨a, c, rfl, -⟩ := RowAt.form (vws_row h.row (S := fun _ => True) (fun _ _ => trivial))
  obtain ⟨n, hn⟩ : ∃ n, V.l.length = n := ⟨_, rfl⟩
  have hle := h.ok.len
  have hlt := hpp.2
  rw [hn] at hle hlt hla
  have HNN : Hid (V.l.length = n) := hn
  obtain ⟨t, ht⟩ : ∃ t, lastV V.l = t := ⟨_, rfl⟩
  have HT : Hid (lastV V.l = t) := ht
  rw [ht] at hla
  have HNW : Hid (∀ w', SrvAt w' b 1 V (.slice a n c) → Calls Try.prog 27 #[.pointer (some ⟨b, 0, none⟩)] w' fun e w'' => e = .returned (vwV t) ∧ Below w'.heap.size w' w'') := fun w' hw => by
    have := now_any b 1 V (.slice a n c) w' hw hne
    rw [ht] at this
    exact this
  have hfd : ∀ w : World, (Instr.field 28 (.agg #[.int .i64 t.n, .int .i64 t.p, .int .i64 t.b]) 0).run Try.prog w = .ok (.int .i64 t.n) w := fun w => by kernel_rfl
  have hwr : IntKind.i64.wrap ((n : Int) + 1) = (n : Int) + 1 := by rw [IntKind.wrap_i64]; omega
  have hnI : ¬ (400 : Int) < (n : Int) := by omega
  have htn : t.n = (n : Int) := hla
  obtain ⟨i0, hi, hz0, hz1, hz2⟩ := info_parts Try.info_vw
  rw [hn] at HS HL ⊢
  clear h h0 hne hl hx hW hMF hs hpp hok hn ht hla
  go_enter_defers Try.func13, Try.ntmps13
  go_upto_region 9 with (first
    | (go_at_call 24; refine (isNone_any b 0 V _ _ HS.out).mono ?_; rintro e w1 ⟨rfl, hw1⟩; subst hw1; rw [HN.out])
    | (go_at_call 25; refine (lock_free Try.muLib ⟨b, 1, none⟩ _ HS.out.lock (HS.out.free 1)).mono ?_; rintro e w2 ⟨rfl, hw2⟩; rw [HW.out] at hw2; subst hw2)
    | (go_at_call 29; refine Calls.mono HMF.out ?_; rintro e w3 ⟨rfl, hb3⟩
       have HB3 : Hid (Below w2.heap.size w2 w3) := hb3
       clear hb3))
  have HS3 : Hid (SrvAt w3 b 1 V (.slice a n c)) := HL.out.below HB3.out
  have c3 := (cells_5 HS3.out.box).2.2.2.1
  have f3 := HS3.out.free 3
  go_upto_region 11 with fail
  refine wp_cut [32, 33, 34, 35, 36, 37, 38, 39, 40, 41, 42, 43, 44, 45, 46, 47] (fun vs w' => ∃ g sa sc, vs = [.pointer (some ⟨b, 0, none⟩), .pointer (some ⟨b, 0, none⟩), .pointer (some ⟨b, 0, none⟩), .pointer (some ⟨b, 3, none⟩), .slice a n c, .pointer (some ⟨b, 0, none⟩), vwV t, .int .i64 n, .int .i64 ((n : Int) + 1), .int .i64 p, .int .i64 q, .agg #[.int .i64 ((n : Int) + 1), .int .i64 p, .int .i64 q], .slice (some ⟨g, 0, none⟩) 1 1, .slice sa (n + 1) sc, .pointer (some ⟨b, 0, none⟩), .pointer (some ⟨b, 3, none⟩)] ∧ Hid (SrvAt w' b 1 ⟨V.nodes, V.l ++ [⟨(lastV V.l).n + 1, p, q⟩], true⟩ (.slice sa (n + 1) sc)) ∧ Hid (Chg w3 w' (fun j => j = b ∨ (Value.slice a n c).ownBlock = some j)) ∧ Hid (∀ j, (Value.slice sa (n + 1) sc).ownBlock = some j → (Value.slice a n c).ownBlock = some j ∨ w3.heap.size ≤ j)) ?_ ?_
  · go_region_law
      (first
      | (refine step_call1 (by rfl) 27 _ _ (by rfl) enters_now (.pointer (some ⟨b, 0, none⟩)) (by rfl) (HNW.out _ (by first | exact HS3.out | exact HS3.out.below (below_drew (Below.refl _ _)) | exact HS3.out.below (below_drew (below_drew (Below.refl _ _))))) ?_
         rintro e w6 ⟨rfl, hb6⟩
         refine ⟨_, rfl, ?_⟩
         have HB6 : Hid (Below w3.heap.size w3 w6) := by first | exact hb6 | exact of_drew hb6 | exact of_drew (of_drew hb6)
         have HS6 : Hid (SrvAt w6 b 1 V (.slice a n c)) := HS3.out.below HB6.out
         have c6 := (cells_5 HS6.out.box).2.2.2.1
         have c6' : (w6.alloc (.cells #[.int .i64 ((n : Int) + 1), .int .i64 p, .int .i64 q] 28)).cell? ⟨b, 3, none⟩ = some (.slice a n c) := (cells_5 (new_old HS6.out.box _)).2.2.2.1
         clear hb6)
      | (refine step_append_own rfl (.tmp 36) (.tmp 44) 31 rfl 0 28 i0 (.agg #[.int .i64 0, .int .i64 0, .int .i64 0]) 3 24 Try.underlying31 hi hz0 hz1 hz2 rfl (by decide) (.slice a n c) n (V.l.flatMap vwCs) (by simp [Act.eval, Act.put]) (by rw [← HNN.out]; rw [← HNN.out] at HS6; first | exact (HS6.out.below ((Below.refl _ _).alloc (Nat.le_refl _) _)).row | exact (HS6.out.below ((below_drew (Below.refl _ _)).alloc (Nat.le_refl _) _)).row) ⟨w6.heap.size, 0, none⟩ 1 1 [.int .i64 ((n : Int) + 1), .int .i64 p, .int .i64 q] (by simp [Act.eval, Act.put]) rfl (fun j u hj => by first | (rw [addr_add, Nat.zero_add, cell_blkD (heap_alloc_new _ _)]; simpa using hj) | (rw [addr_add, Nat.zero_add, cell_blkD (heap_alloc_new w6.drew _)]; simpa using hj)) (fun u hu => by simp only [List.mem_cons, List.not_mem_nil, or_false] at hu; rcases hu with rfl | rfl | rfl <;> rfl) (by unfold maxLen; omega) (by omega) (Nat.zero_le _) ?_
         intro v7 w7 hr7 hg7 hat7
         obtain ⟨sa, sc, rfl⟩ : ∃ sa sc, v7 = .slice sa (n + 1) sc := by
           rcases hr7.2 with ⟨_, h0⟩ | ⟨g, cap, cur, rfl, _⟩
           · cases h0
           · exact ⟨_, _, rfl⟩
         have HB7 : Hid (Below w6.heap.size w6 (w6.alloc (.cells #[.int .i64 ((n : Int) + 1), .int .i64 p, .int .i64 q] 28))) := (Below.refl _ _).alloc (Nat.le_refl _) _
         have HS7 : Hid (SrvAt (w6.alloc (.cells #[.int .i64 ((n : Int) + 1), .int .i64 p, .int .i64 q] 28)) b 1 V (.slice a n c)) := HS6.out.below HB7.out
         have H9 : Hid _ := prom_app (p := p) (q := q) HS7.out HSET.out HOK.out (by rw [HNN.out, HT.out, htn]; exact hr7) hg7 hat7
         have hx7 := hg7.block b HS7.out.lt (fun e => HS7.out.apart e.symm)
         rw [HS7.out.box] at hx7
         have c7 := (cells_5 hx7).2.2.2.1
         have f7 := free_of hx7 3
         clear hr7 hg7 hat7 hx7)
      | fail)
    all_goals refine ⟨[.pointer (some ⟨b, 0, none⟩), .pointer (some ⟨b, 0, none⟩), .pointer (some ⟨b, 0, none⟩), .pointer (some ⟨b, 3, none⟩), .slice a n c, .pointer (some ⟨b, 0, none⟩), vwV t, .int .i64 n, .int .i64 ((n : Int) + 1), .int .i64 p, .int .i64 q, .agg #[.int .i64 ((n : Int) + 1), .int .i64 p, .int .i64 q], .slice (some ⟨w6.heap.size, 0, none⟩) 1 1, .slice sa (n + 1) sc, .pointer (some ⟨b, 0, none⟩), .pointer (some ⟨b, 3, none⟩)], ⟨w6.heap.size, sa, sc, rfl, H9.out.1, ?_, ?_⟩, ?_⟩
    all_goals first
      | exact (Chg.of_below (trans2 HB6.out HB7.out) _).trans H9.out.2.1
      | exact fun j hj => (H9.out.2.2 j hj).elim .inl (fun h => .inr (Nat.le_trans (trans2 HB6.out HB7.out).size h))
      | simp [putsL, Act.put]
  · rintro vs w8 ⟨g, sa, sc, rfl, H8, HC8, HA8⟩
    have s4 := (cells_5 H8.out.box).2.2.2.2
    have f4 := H8.out.free 4
    simp only [putsL]
    go_wp2_with fail
    simp only [bodyPostD]
    have h10 : SrvAt (w8.setCell ⟨b, 4, none⟩ (.bool false)) b 1 (V.prom p q) (.slice sa (n + 1) sc) := by
      have e0 : V.prom p q = ⟨V.nodes, V.l ++ [⟨(lastV V.l).n + 1, p, q⟩], false⟩ := by unfold SvT.prom; rw [if_pos HOK.out]
      refine H8.out.set (HS3.out.ok.prom p q) (by rw [e0]) (by rw [e0]; rfl)
    refine leaves_cons (f := 26) (args := #[.pointer (some ⟨b, 1, none⟩)]) (by simp) (by simp [go_sem]) ?_
    refine (unlock_deferred Try.muLib ⟨b, 1, none⟩ .returning _ h10.lock (h10.free 1)).mono ?_
    rintro e u' w'' ⟨rfl, rfl, rfl⟩
    refine ⟨_, results_tmp rfl _ _ _, by rw [HOK.out]; rfl, .slice sa (n + 1) sc, h10.locked 0, ?_, fun j hj => (HA8.out j hj).elim .inl (fun h => .inr (Nat.le_trans (HCW.out.trans (Chg.of_below HB3.out _)).size h))⟩
    exact ((((HCW.out.trans (Chg.of_below HB3.out _)).mono (fun _ _ h => .inl h)).trans HC8.out).trans ((Chg.set _ _ _).mono (fun _ _ h => .inl h))).trans ((Chg.set _ _ _).mono (fun _ _ h => .inl h))
end Go.Proofs.Ytlbhnlpdijhmlaa
