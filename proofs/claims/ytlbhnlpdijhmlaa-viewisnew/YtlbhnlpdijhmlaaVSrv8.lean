/-
  view: Take.
-/
import Derived.Test.YtlbhnlpdijhmlaaVSrv7
import Derived.Test.YtlbhnlpdijhmlaaVDid
import Derived.Laws.EntriesVeiled
namespace Go.Proofs.Ytlbhnlpdijhmlaa
open Go.RowKit Go.MuLone
set_option linter.unusedVariables false
set_option linter.unusedSimpArgs false

theorem take_nil (f : Int) (ns : List Value) (w : World) : Calls Try.prog 17 #[.pointer none, .int .i64 f, .agg ns.toArray] w fun e w' => e = .returned (.slice none 0 0) ∧ Below w.heap.size w w' := by
  go_enter_defers Try.func17, Try.ntmps17
  go_wp2_with (go_at_call 24; refine (isNone_nil _).mono ?_; rintro e w1 ⟨rfl, hw1⟩; have HW : Hid _ := hw1; clear hw1)
  exact ⟨_, results_tmp rfl _ _ _, rfl, by rw [HW.out]; exact (Below.refl _ _).alloc (Nat.le_refl _) _⟩
theorem enters_takings : ∀ args w, (callFunc 31 args).run Try.prog w = .ok (.enter 31 args) w := enters_of Try.func31 (by kernel_rfl) rfl
/-- What Take answers. -/
def TkE (w w' : World) (m : Value) (l : List (List Value)) : Prop := (l = [] ∧ m = .slice none 0 0) ∨ ∃ g t, l = [tellCs t] ∧ m = .slice (some ⟨g, 0, none⟩) 1 1 ∧ w'.heap[g]? = some (.cells (tellCs t).toArray 47 (0, 0)) ∧ w.heap.size ≤ g
theorem SvT.took_else {V : SvT} {f k n : Int} (h1 : k ≠ 21) (h3 : k ≠ 23) : V.took f k n = V ∧ V.tells k = [] := by
  refine ⟨by unfold SvT.took; rw [if_neg h3], by unfold SvT.tells; rw [if_neg (fun h => h1 h.2)]⟩
theorem take_zero (b : Nat) (V : SvT) (v : Value) (f k n : Int) (ns : List Value) (w : World) (h : SrvAt w b 0 V v) (h0 : V.nodes = 0) :
    Calls Try.prog 17 #[.pointer (some ⟨b, 0, none⟩), .int .i64 f, .agg ns.toArray] w fun e w' => ∃ m, e = .returned m ∧ TkE w w' m (V.tells k) ∧ SrvAt w' b 0 (V.took f k n) v ∧ Chg w w' (fun j => j = b) := by
  have HE : Hid (V.took f k n = V ∧ V.tells k = []) := by
    have e := (h.ok.none h0).1
    refine ⟨by unfold SvT.took; split; exact (SvT.sett_none e n f).2; rfl, by unfold SvT.tells; rw [if_neg (fun h => h.1 e)]⟩
  have HN : Hid (V.nodes == 0) := by show _ = true; simpa using h0
  have HB : Hid (Below w.heap.size w (w.alloc (.cells ns.toArray 47))) := (Below.refl _ _).alloc (Nat.le_refl _) _
  have HS : Hid (SrvAt (w.alloc (.cells ns.toArray 47)) b 0 V v) := h.below HB.out
  clear h h0
  go_enter_defers Try.func17, Try.ntmps17
  go_wp2_with (go_at_call 24; refine (isNone_any b 0 V v _ HS.out).mono ?_; rintro e w1 ⟨rfl, hw1⟩; have HW : Hid _ := hw1; clear hw1; rw [HN.out])
  exact ⟨_, results_tmp rfl _ _ _, _, rfl, .inl ⟨HE.out.2, rfl⟩, by rw [HE.out.1, HW.out]; exact HS.out, by rw [HW.out]; exact Chg.of_below HB.out _⟩
theorem SvT.took_set {V : SvT} {f k n : Int} (h3 : k = 23) : V.took f k n = V.sett n f ∧ V.tells k = [] := by
  refine ⟨by unfold SvT.took; rw [if_pos h3], by unfold SvT.tells; rw [if_neg (fun h => by rw [h3] at h; exact absurd h.2 (by decide))]⟩
theorem SvT.took_ask {V : SvT} {f k n : Int} (hl : V.l ≠ []) (h1 : k = 21) : V.took f k n = V ∧ V.tells k = [tellCs (lastV V.l)] := by
  refine ⟨by unfold SvT.took; rw [if_neg (by rw [h1]; decide)], by unfold SvT.tells; rw [if_pos ⟨hl, h1⟩]⟩
set_option maxHeartbeats 12800000 in
set_option maxRecDepth 100000 in
theorem take_else (b : Nat) (V : SvT) (v : Value) (f k n : Int) (ns : List Value) (w : World) (h : SrvAt w b 0 V v) (h0 : V.nodes ≠ 0) (hno : NoAt ns k n) (h1 : k ≠ 21) (h3 : k ≠ 23) :
    Calls Try.prog 17 #[.pointer (some ⟨b, 0, none⟩), .int .i64 f, .agg ns.toArray] w fun e w' => ∃ m, e = .returned m ∧ TkE w w' m (V.tells k) ∧ SrvAt w' b 0 (V.took f k n) v ∧ Chg w w' (fun j => j = b) := by
  have HE : Hid _ := SvT.took_else (V := V) (f := f) (n := n) h1 h3
  have HN : Hid ((V.nodes == 0) = false) := by show _ = false; simpa using h0
  have HVL : Hid (V.l ≠ []) := h.ok.some h0
  have HNO : Hid (NoAt ns k n) := hno
  have HLK : Hid (∀ {w' : World} {B : Nat}, w'.heap[B]? = some (tkMap (tkF b 42) (tkF b 43)) → (Instr.lookup 81 (.map (some B)) (.int .i64 k) true).run Try.prog w' = .ok (.tuple #[.agg #[.nilFunc], .bool false]) w') := fun {w' B} hB => by
    rw [look_tk hB k, if_neg h1, if_neg h3, decide_eq_false (fun h => h.elim h1 h3)]
  have hB0 : Below w.heap.size w (w.alloc (.cells ns.toArray 47)) := (Below.refl _ _).alloc (Nat.le_refl _) _
  have hbx : (w.alloc (.cells ns.toArray 47)).heap[w.heap.size]? = some (.cells ns.toArray 47 (0, 0)) := heap_alloc_new _ _
  have hs0 := h.below hB0
  have hltb := h.lt
  obtain ⟨W, hW⟩ : ∃ W, w.alloc (.cells ns.toArray 47) = W := ⟨_, rfl⟩
  obtain ⟨g, hg⟩ : ∃ g, w.heap.size = g := ⟨_, rfl⟩
  have HG : Hid (w.heap.size = g) := hg
  rw [hW] at hB0 hbx hs0
  rw [hg] at hbx hltb
  have HW : Hid (w.alloc (.cells ns.toArray 47) = W) := hW
  have HS : Hid (SrvAt W b 0 V v) := hs0
  have HB : Hid (Below w.heap.size w W) := hB0
  obtain ⟨X, hX⟩ : ∃ X, W.setCell ⟨b, 1, none⟩ (.int .i32 1) = X := ⟨_, rfl⟩
  have HX : Hid (W.setCell ⟨b, 1, none⟩ (.int .i32 1) = X) := hX
  have hl := hs0.locked 1
  have hbx1 := other_blk (g := b) (i := 1) (v := .int .i32 1) hbx (by omega)
  rw [hX] at hl hbx1
  have HL : Hid (SrvAt X b 1 V v) := hl
  have HCX : Hid (Chg w X (fun j => j = b)) := by show Chg _ _ _; rw [← hX]; exact (Chg.of_below hB0 _).trans (Chg.set _ _ _)
  have HR : Hid (X.heap[g]? = some (.cells ns.toArray 47 (0, 0)) ∧ b < g) := ⟨hbx1, hltb⟩
  have HNK : Hid (∀ {w' : World}, w'.heap[g]? = some (.cells ns.toArray 47 (0, 0)) → w'.cell? ⟨g, 0, none⟩ = some (.int .i64 k)) := fun {w'} hb => by have := range_of hb 0 _ hno.k; simpa using this
  have c0 := HNK.out hbx1
  have c0d : X.drew.cell? ⟨g, 0, none⟩ = some (.int .i64 k) := c0
  have c0b : (X.alloc (.cells #[.nilFunc] 79)).cell? ⟨g, 0, none⟩ = some (.int .i64 k) := HNK.out (new_old (w := X) hbx1 _)
  have c0c : (X.alloc (.cells #[.nilFunc] 79)).drew.cell? ⟨g, 0, none⟩ = some (.int .i64 k) := c0b
  have c0a : (X.drew.alloc (.cells #[.nilFunc] 79)).cell? ⟨g, 0, none⟩ = some (.int .i64 k) := HNK.out (new_old (w := X.drew) hbx1 _)
  clear h h0 hno h1 h3 hW hX hl hbx hbx1 hs0 hB0 hltb
  go_enter_defers Try.func17, Try.ntmps17
  go_upto_region 1 with fail
  rw [HW.out]
  clear hg
  go_upto_region 5 with (first
    | (go_at_call 24; refine (isNone_any b 0 V v _ HS.out).mono ?_; rintro e w1 ⟨rfl, hw1⟩; subst hw1; rw [HN.out])
    | (go_at_call 25; refine (lock_free Try.muLib ⟨b, 1, none⟩ _ HS.out.lock (HS.out.free 1)).mono ?_; rintro e w2 ⟨rfl, hw2⟩; rw [HX.out] at hw2; subst hw2))
  refine wp_cut [19, 20, 21, 22, 23, 18, 24, 25, 7, 8] (fun vs w' => ∃ B d, vs = [.pointer (some ⟨b, 0, none⟩), .map (some B), .pointer (some ⟨g, 0, none⟩), .int .i64 k, .tuple #[.agg #[.nilFunc], .bool false], .tuple #[.agg #[.nilFunc], .bool false], .agg #[.nilFunc], .bool false, .pointer (some ⟨d, 0, none⟩), .bool false] ∧ Hid (Below w2.heap.size w2 w') ∧ Hid (w'.heap[d]? = some (.cells #[.nilFunc] 79 (0, 0)))) ?_ ?_
  · go_region_law
      (first
      | (refine step_call1 (by rfl) 31 _ _ (by rfl) enters_takings (.pointer (some ⟨b, 0, none⟩)) (by rfl) (takings_any b _) ?_
         rintro e w6 ⟨B, rfl, hB6, hle6, hb6⟩
         refine ⟨_, rfl, ?_⟩
         have hlk := HLK.out hB6
         have H6 : Hid (Below w2.heap.size w2 w6) := by first | exact hb6 | exact of_drew hb6 | exact trans2 ((Below.refl _ _).alloc (Nat.le_refl _) _) hb6 | exact trans2 ((below_drew (Below.refl _ _)).alloc (Nat.le_refl _) _) hb6
         have HB6 : Hid (w6.heap[B]? = some (tkMap (tkF b 42) (tkF b 43))) := hB6
         have c6 := HNK.out (kept_block H6.out HR.out.1)
         have c6' := HNK.out (new_old (kept_block H6.out HR.out.1) (.cells #[.nilFunc] 79))
         have hlk' := HLK.out (new_old HB6.out (.cells #[.nilFunc] 79))
         try have hd6 := kept_block hb6 (heap_alloc_new _ (.cells #[.nilFunc] 79))
         try have e61 := cells_1 hd6
         try have e62 := free_1 hd6 0
         try have HD6 : Hid _ := hd6
         try clear hd6
         clear hb6 hB6 hle6)
      | fail)
    all_goals first
      | exact ⟨[.pointer (some ⟨b, 0, none⟩), .map (some B), .pointer (some ⟨g, 0, none⟩), .int .i64 k, .tuple #[.agg #[.nilFunc], .bool false], .tuple #[.agg #[.nilFunc], .bool false], .agg #[.nilFunc], .bool false, .pointer (some ⟨w6.heap.size, 0, none⟩), .bool false], ⟨B, w6.heap.size, rfl, H6.out.alloc H6.out.size _, heap_alloc_new _ _⟩, by simp [putsL, Act.put]⟩
      | exact ⟨[.pointer (some ⟨b, 0, none⟩), .map (some B), .pointer (some ⟨g, 0, none⟩), .int .i64 k, .tuple #[.agg #[.nilFunc], .bool false], .tuple #[.agg #[.nilFunc], .bool false], .agg #[.nilFunc], .bool false, .pointer (some ⟨w2.heap.size, 0, none⟩), .bool false], ⟨B, w2.heap.size, rfl, H6.out.setCell (Nat.le_refl _) _, fill_1 HD6.out⟩, by simp [putsL, Act.put]⟩
  · rintro vs w8 ⟨B, d, rfl, H8, HD8⟩
    simp only [putsL]
    go_wp2_with fail
    simp only [bodyPostD]
    have h4 := HL.out.below H8.out
    refine leaves_cons (f := 26) (args := #[.pointer (some ⟨b, 1, none⟩)]) (by simp) (by simp [go_sem]) ?_
    refine (unlock_deferred Try.muLib ⟨b, 1, none⟩ .returning _ h4.lock (h4.free 1)).mono ?_
    rintro e u' w'' ⟨rfl, rfl, rfl⟩
    exact ⟨_, results_tmp rfl _ _ _, _, rfl, .inl ⟨HE.out.2, rfl⟩, by rw [HE.out.1]; exact h4.locked 0, (HCX.out.trans (Chg.of_below H8.out _)).trans (Chg.set _ _ _)⟩
end Go.Proofs.Ytlbhnlpdijhmlaa
