/-
  view: Take of a note that is known.
-/
import Derived.Test.YtlbhnlpdijhmlaaVSrv8
import Derived.Test.YtlbhnlpdijhmlaaVDid
import Derived.Laws.EntriesVeiled
namespace Go.Proofs.Ytlbhnlpdijhmlaa
open Go.RowKit Go.MuLone
set_option linter.unusedVariables false
set_option linter.unusedSimpArgs false

set_option maxHeartbeats 12800000 in
set_option maxRecDepth 100000 in
theorem take_set (b : Nat) (V : SvT) (v : Value) (f k n : Int) (ns : List Value) (w : World) (h : SrvAt w b 0 V v) (h0 : V.nodes ≠ 0) (hno : NoAt ns k n) (h3 : k = 23) :
    Calls Try.prog 17 #[.pointer (some ⟨b, 0, none⟩), .int .i64 f, .agg ns.toArray] w fun e w' => ∃ m, e = .returned m ∧ TkE w w' m (V.tells k) ∧ SrvAt w' b 0 (V.took f k n) v ∧ Chg w w' (fun j => j = b) := by
  have HE : Hid _ := SvT.took_set (V := V) (f := f) (n := n) h3
  have HN : Hid ((V.nodes == 0) = false) := by show _ = false; simpa using h0
  have HVL : Hid (V.l ≠ []) := h.ok.some h0
  have HNO : Hid (NoAt ns k n) := hno
  have HLK : Hid (∀ {w' : World} {B : Nat}, w'.heap[B]? = some (tkMap (tkF b 42) (tkF b 43)) → (Instr.lookup 81 (.map (some B)) (.int .i64 k) true).run Try.prog w' = .ok (.tuple #[.agg #[.func (.func 43) #[.pointer (some ⟨b, 0, none⟩)] #[]], .bool true]) w') := fun {w' B} hB => by
    rw [look_tk hB k, if_neg (by rw [h3]; decide), if_pos h3, decide_eq_true (.inr h3)]
  have hB0 : Below w.heap.size w (w.alloc (.cells ns.toArray 47)) := (Below.refl _ _).alloc (Nat.le_refl _) _
  have hbx : (w.alloc (.cells ns.toArray 47)).heap[w.heap.size]? = some (.cells ns.toArray 47 (0, 0)) := heap_alloc_new _ _
  have hs0 := h.below hB0
  have hltb := h.lt
  obtain ⟨W, hW⟩ : ∃ W, w.alloc (.cells ns.toArray 47) = W := ⟨_, rfl⟩
  obtain ⟨g, hg⟩ : ∃ g, w.heap.size = g := ⟨_, rfl⟩
  have HG : Hid (w.heap.size = g) := hg
  rw [hW] at hB0 hbx hs0
  rw [hg] at hbx hltb
  have HW : Hid (w.alloc (.cells ns.toArray 47) = W) := hW
  have HS : Hid (SrvAt W b 0 V v) := hs0
  have HB : Hid (Below w.heap.size w W) := hB0
  obtain ⟨X, hX⟩ : ∃ X, W.setCell ⟨b, 1, none⟩ (.int .i32 1) = X := ⟨_, rfl⟩
  have HX : Hid (W.setCell ⟨b, 1, none⟩ (.int .i32 1) = X) := hX
  have hl := hs0.locked 1
  have hbx1 := other_blk (g := b) (i := 1) (v := .int .i32 1) hbx (by omega)
  rw [hX] at hl hbx1
  have HL : Hid (SrvAt X b 1 V v) := hl
  have HCX : Hid (Chg w X (fun j => j = b)) := by show Chg _ _ _; rw [← hX]; exact (Chg.of_below hB0 _).trans (Chg.set _ _ _)
  have HR : Hid (X.heap[g]? = some (.cells ns.toArray 47 (0, 0)) ∧ b < g) := ⟨hbx1, hltb⟩
  have HNK : Hid (∀ {w' : World}, w'.heap[g]? = some (.cells ns.toArray 47 (0, 0)) → w'.cell? ⟨g, 0, none⟩ = some (.int .i64 k)) := fun {w'} hb => by have := range_of hb 0 _ hno.k; simpa using this
  have c0 := HNK.out hbx1
  have c0d : X.drew.cell? ⟨g, 0, none⟩ = some (.int .i64 k) := c0
  have c0b : (X.alloc (.cells #[.nilFunc] 79)).cell? ⟨g, 0, none⟩ = some (.int .i64 k) := HNK.out (new_old (w := X) hbx1 _)
  have c0c : (X.alloc (.cells #[.nilFunc] 79)).drew.cell? ⟨g, 0, none⟩ = some (.int .i64 k) := c0b
  have c0a : (X.drew.alloc (.cells #[.nilFunc] 79)).cell? ⟨g, 0, none⟩ = some (.int .i64 k) := HNK.out (new_old (w := X.drew) hbx1 _)
  clear h h0 hno h3 hW hX hl hbx hbx1 hs0 hB0 hltb
  go_enter_defers Try.func17, Try.ntmps17
  go_upto_region 1 with fail
  rw [HW.out]
  clear hg
  go_upto_region 5 with (first
    | (go_at_call 24; refine (isNone_any b 0 V v _ HS.out).mono ?_; rintro e w1 ⟨rfl, hw1⟩; subst hw1; rw [HN.out])
    | (go_at_call 25; refine (lock_free Try.muLib ⟨b, 1, none⟩ _ HS.out.lock (HS.out.free 1)).mono ?_; rintro e w2 ⟨rfl, hw2⟩; rw [HX.out] at hw2; subst hw2))
  refine wp_cut [19, 20, 21, 22, 23, 18, 24, 25, 7, 8] (fun vs w' => ∃ B d, vs = [.pointer (some ⟨b, 0, none⟩), .map (some B), .pointer (some ⟨g, 0, none⟩), .int .i64 k, .tuple #[.agg #[.func (.func 43) #[.pointer (some ⟨b, 0, none⟩)] #[]], .bool true], .tuple #[.agg #[.func (.func 43) #[.pointer (some ⟨b, 0, none⟩)] #[]], .bool true], .agg #[.func (.func 43) #[.pointer (some ⟨b, 0, none⟩)] #[]], .bool true, .pointer (some ⟨d, 0, none⟩), .bool true] ∧ Hid (Below w2.heap.size w2 w') ∧ Hid (w'.heap[d]? = some (.cells #[.func (.func 43) #[.pointer (some ⟨b, 0, none⟩)] #[]] 79 (0, 0)))) ?_ ?_
  · go_region_law
      (first
      | (refine step_call1 (by rfl) 31 _ _ (by rfl) enters_takings (.pointer (some ⟨b, 0, none⟩)) (by rfl) (takings_any b _) ?_
         rintro e w6 ⟨B, rfl, hB6, hle6, hb6⟩
         refine ⟨_, rfl, ?_⟩
         have hlk := HLK.out hB6
         have H6 : Hid (Below w2.heap.size w2 w6) := by first | exact hb6 | exact of_drew hb6 | exact trans2 ((Below.refl _ _).alloc (Nat.le_refl _) _) hb6 | exact trans2 ((below_drew (Below.refl _ _)).alloc (Nat.le_refl _) _) hb6
         have HB6 : Hid (w6.heap[B]? = some (tkMap (tkF b 42) (tkF b 43))) := hB6
         have c6 := HNK.out (kept_block H6.out HR.out.1)
         have c6' := HNK.out (new_old (kept_block H6.out HR.out.1) (.cells #[.nilFunc] 79))
         have hlk' := HLK.out (new_old HB6.out (.cells #[.nilFunc] 79))
         try have hd6 := kept_block hb6 (heap_alloc_new _ (.cells #[.nilFunc] 79))
         try have e61 := cells_1 hd6
         try have e62 := free_1 hd6 0
         try have HD6 : Hid _ := hd6
         try clear hd6
         clear hb6 hB6 hle6)
      | fail)
    all_goals first
      | exact ⟨[.pointer (some ⟨b, 0, none⟩), .map (some B), .pointer (some ⟨g, 0, none⟩), .int .i64 k, .tuple #[.agg #[.func (.func 43) #[.pointer (some ⟨b, 0, none⟩)] #[]], .bool true], .tuple #[.agg #[.func (.func 43) #[.pointer (some ⟨b, 0, none⟩)] #[]], .bool true], .agg #[.func (.func 43) #[.pointer (some ⟨b, 0, none⟩)] #[]], .bool true, .pointer (some ⟨w6.heap.size, 0, none⟩), .bool true], ⟨B, w6.heap.size, rfl, H6.out.alloc H6.out.size _, heap_alloc_new _ _⟩, by simp [putsL, Act.put]⟩
      | exact ⟨[.pointer (some ⟨b, 0, none⟩), .map (some B), .pointer (some ⟨g, 0, none⟩), .int .i64 k, .tuple #[.agg #[.func (.func 43) #[.pointer (some ⟨b, 0, none⟩)] #[]], .bool true], .tuple #[.agg #[.func (.func 43) #[.pointer (some ⟨b, 0, none⟩)] #[]], .bool true], .agg #[.func (.func 43) #[.pointer (some ⟨b, 0, none⟩)] #[]], .bool true, .pointer (some ⟨w2.heap.size, 0, none⟩), .bool true], ⟨B, w2.heap.size, rfl, H6.out.setCell (Nat.le_refl _) _, fill_1 HD6.out⟩, by simp [putsL, Act.put]⟩
  · rintro vs w8 ⟨B, d, rfl, H8, HD8⟩
    have d0 := cells_1 HD8.out
    have HR8 : Hid (w8.rangeAt g 0 ns) := range_of (kept_block H8.out HR.out.1)
    have HHR : Hid _ := hear_any b 1 V v f k n ns w8 (HL.out.below H8.out) HVL.out HNO.out
    simp only [putsL]
    go_wp2_with (first
      | (refine wpList_load_mid rfl 47 _ rfl g 0 rfl ns _ HR8.out Try.underlying47 rfl (by rw [HNO.out.len]; exact Try.infoNote) ?_)
      | (go_at_call 43; refine Calls.mono HHR.out ?_; rintro e w9 ⟨rfl, h9, hc9⟩
         have H9 : Hid (SrvAt w9 b 1 (V.sett n f) v) := h9
         have HC9 : Hid (Chg w8 w9 (fun j => j = b)) := hc9
         clear h9 hc9)
      | fail)
    simp only [bodyPostD]
    have h4 := H9.out
    refine leaves_cons (f := 26) (args := #[.pointer (some ⟨b, 1, none⟩)]) (by simp) (by simp [go_sem]) ?_
    refine (unlock_deferred Try.muLib ⟨b, 1, none⟩ .returning _ h4.lock (h4.free 1)).mono ?_
    rintro e u' w'' ⟨rfl, rfl, rfl⟩
    exact ⟨_, results_tmp rfl _ _ _, _, rfl, .inl ⟨HE.out.2, rfl⟩, by rw [HE.out.1]; exact h4.locked 0, ((HCX.out.trans (Chg.of_below H8.out _)).trans HC9.out).trans (Chg.set _ _ _)⟩
set_option maxHeartbeats 12800000 in
set_option maxRecDepth 100000 in
theorem take_ask (b : Nat) (V : SvT) (v : Value) (f k n : Int) (ns : List Value) (w : World) (h : SrvAt w b 0 V v) (h0 : V.nodes ≠ 0) (hno : NoAt ns k n) (h1 : k = 21) :
    Calls Try.prog 17 #[.pointer (some ⟨b, 0, none⟩), .int .i64 f, .agg ns.toArray] w fun e w' => ∃ m, e = .returned m ∧ TkE w w' m (V.tells k) ∧ SrvAt w' b 0 (V.took f k n) v ∧ Chg w w' (fun j => j = b) := by
  have HE : Hid _ := SvT.took_ask (V := V) (f := f) (n := n) (h.ok.some h0) h1
  have HN : Hid ((V.nodes == 0) = false) := by show _ = false; simpa using h0
  have HVL : Hid (V.l ≠ []) := h.ok.some h0
  have HNO : Hid (NoAt ns k n) := hno
  have HLK : Hid (∀ {w' : World} {B : Nat}, w'.heap[B]? = some (tkMap (tkF b 42) (tkF b 43)) → (Instr.lookup 81 (.map (some B)) (.int .i64 k) true).run Try.prog w' = .ok (.tuple #[.agg #[.func (.func 42) #[.pointer (some ⟨b, 0, none⟩)] #[]], .bool true]) w') := fun {w' B} hB => by
    rw [look_tk hB k, if_pos h1, decide_eq_true (.inl h1)]
  have hB0 : Below w.heap.size w (w.alloc (.cells ns.toArray 47)) := (Below.refl _ _).alloc (Nat.le_refl _) _
  have hbx : (w.alloc (.cells ns.toArray 47)).heap[w.heap.size]? = some (.cells ns.toArray 47 (0, 0)) := heap_alloc_new _ _
  have hs0 := h.below hB0
  have hltb := h.lt
  obtain ⟨W, hW⟩ : ∃ W, w.alloc (.cells ns.toArray 47) = W := ⟨_, rfl⟩
  obtain ⟨g, hg⟩ : ∃ g, w.heap.size = g := ⟨_, rfl⟩
  have HG : Hid (w.heap.size = g) := hg
  rw [hW] at hB0 hbx hs0
  rw [hg] at hbx hltb
  have HW : Hid (w.alloc (.cells ns.toArray 47) = W) := hW
  have HS : Hid (SrvAt W b 0 V v) := hs0
  have HB : Hid (Below w.heap.size w W) := hB0
  obtain ⟨X, hX⟩ : ∃ X, W.setCell ⟨b, 1, none⟩ (.int .i32 1) = X := ⟨_, rfl⟩
  have HX : Hid (W.setCell ⟨b, 1, none⟩ (.int .i32 1) = X) := hX
  have hl := hs0.locked 1
  have hbx1 := other_blk (g := b) (i := 1) (v := .int .i32 1) hbx (by omega)
  rw [hX] at hl hbx1
  have HL : Hid (SrvAt X b 1 V v) := hl
  have HCX : Hid (Chg w X (fun j => j = b)) := by show Chg _ _ _; rw [← hX]; exact (Chg.of_below hB0 _).trans (Chg.set _ _ _)
  have HR : Hid (X.heap[g]? = some (.cells ns.toArray 47 (0, 0)) ∧ b < g) := ⟨hbx1, hltb⟩
  have HNK : Hid (∀ {w' : World}, w'.heap[g]? = some (.cells ns.toArray 47 (0, 0)) → w'.cell? ⟨g, 0, none⟩ = some (.int .i64 k)) := fun {w'} hb => by have := range_of hb 0 _ hno.k; simpa using this
  have c0 := HNK.out hbx1
  have c0d : X.drew.cell? ⟨g, 0, none⟩ = some (.int .i64 k) := c0
  have c0b : (X.alloc (.cells #[.nilFunc] 79)).cell? ⟨g, 0, none⟩ = some (.int .i64 k) := HNK.out (new_old (w := X) hbx1 _)
  have c0c : (X.alloc (.cells #[.nilFunc] 79)).drew.cell? ⟨g, 0, none⟩ = some (.int .i64 k) := c0b
  have c0a : (X.drew.alloc (.cells #[.nilFunc] 79)).cell? ⟨g, 0, none⟩ = some (.int .i64 k) := HNK.out (new_old (w := X.drew) hbx1 _)
  clear h h0 hno h1 hW hX hl hbx hbx1 hs0 hB0 hltb
  go_enter_defers Try.func17, Try.ntmps17
  go_upto_region 1 with fail
  rw [HW.out]
  clear hg
  go_upto_region 5 with (first
    | (go_at_call 24; refine (isNone_any b 0 V v _ HS.out).mono ?_; rintro e w1 ⟨rfl, hw1⟩; subst hw1; rw [HN.out])
    | (go_at_call 25; refine (lock_free Try.muLib ⟨b, 1, none⟩ _ HS.out.lock (HS.out.free 1)).mono ?_; rintro e w2 ⟨rfl, hw2⟩; rw [HX.out] at hw2; subst hw2))
  refine wp_cut [19, 20, 21, 22, 23, 18, 24, 25, 7, 8] (fun vs w' => ∃ B d, vs = [.pointer (some ⟨b, 0, none⟩), .map (some B), .pointer (some ⟨g, 0, none⟩), .int .i64 k, .tuple #[.agg #[.func (.func 42) #[.pointer (some ⟨b, 0, none⟩)] #[]], .bool true], .tuple #[.agg #[.func (.func 42) #[.pointer (some ⟨b, 0, none⟩)] #[]], .bool true], .agg #[.func (.func 42) #[.pointer (some ⟨b, 0, none⟩)] #[]], .bool true, .pointer (some ⟨d, 0, none⟩), .bool true] ∧ Hid (Below w2.heap.size w2 w') ∧ Hid (w'.heap[d]? = some (.cells #[.func (.func 42) #[.pointer (some ⟨b, 0, none⟩)] #[]] 79 (0, 0)))) ?_ ?_
  · go_region_law
      (first
      | (refine step_call1 (by rfl) 31 _ _ (by rfl) enters_takings (.pointer (some ⟨b, 0, none⟩)) (by rfl) (takings_any b _) ?_
         rintro e w6 ⟨B, rfl, hB6, hle6, hb6⟩
         refine ⟨_, rfl, ?_⟩
         have hlk := HLK.out hB6
         have H6 : Hid (Below w2.heap.size w2 w6) := by first | exact hb6 | exact of_drew hb6 | exact trans2 ((Below.refl _ _).alloc (Nat.le_refl _) _) hb6 | exact trans2 ((below_drew (Below.refl _ _)).alloc (Nat.le_refl _) _) hb6
         have HB6 : Hid (w6.heap[B]? = some (tkMap (tkF b 42) (tkF b 43))) := hB6
         have c6 := HNK.out (kept_block H6.out HR.out.1)
         have c6' := HNK.out (new_old (kept_block H6.out HR.out.1) (.cells #[.nilFunc] 79))
         have hlk' := HLK.out (new_old HB6.out (.cells #[.nilFunc] 79))
         try have hd6 := kept_block hb6 (heap_alloc_new _ (.cells #[.nilFunc] 79))
         try have e61 := cells_1 hd6
         try have e62 := free_1 hd6 0
         try have HD6 : Hid _ := hd6
         try clear hd6
         clear hb6 hB6 hle6)
      | fail)
    all_goals first
      | exact ⟨[.pointer (some ⟨b, 0, none⟩), .map (some B), .pointer (some ⟨g, 0, none⟩), .int .i64 k, .tuple #[.agg #[.func (.func 42) #[.pointer (some ⟨b, 0, none⟩)] #[]], .bool true], .tuple #[.agg #[.func (.func 42) #[.pointer (some ⟨b, 0, none⟩)] #[]], .bool true], .agg #[.func (.func 42) #[.pointer (some ⟨b, 0, none⟩)] #[]], .bool true, .pointer (some ⟨w6.heap.size, 0, none⟩), .bool true], ⟨B, w6.heap.size, rfl, H6.out.alloc H6.out.size _, heap_alloc_new _ _⟩, by simp [putsL, Act.put]⟩
      | exact ⟨[.pointer (some ⟨b, 0, none⟩), .map (some B), .pointer (some ⟨g, 0, none⟩), .int .i64 k, .tuple #[.agg #[.func (.func 42) #[.pointer (some ⟨b, 0, none⟩)] #[]], .bool true], .tuple #[.agg #[.func (.func 42) #[.pointer (some ⟨b, 0, none⟩)] #[]], .bool true], .agg #[.func (.func 42) #[.pointer (some ⟨b, 0, none⟩)] #[]], .bool true, .pointer (some ⟨w2.heap.size, 0, none⟩), .bool true], ⟨B, w2.heap.size, rfl, H6.out.setCell (Nat.le_refl _) _, fill_1 HD6.out⟩, by simp [putsL, Act.put]⟩
  · rintro vs w8 ⟨B, d, rfl, H8, HD8⟩
    have d0 := cells_1 HD8.out
    have HR8 : Hid (w8.rangeAt g 0 ns) := range_of (kept_block H8.out HR.out.1)
    have HTL : Hid _ := tell_any b 1 V v f ns w8 (HL.out.below H8.out) HVL.out
    simp only [putsL]
    go_wp2_with (first
      | (refine wpList_load_mid rfl 47 _ rfl g 0 rfl ns _ HR8.out Try.underlying47 rfl (by rw [HNO.out.len]; exact Try.infoNote) ?_)
      | (go_at_call 42; refine Calls.mono HTL.out ?_; rintro e w9 ⟨y, rfl, hy9, hle9, hb9⟩
         have HY9 : Hid (w9.heap[y]? = some (.cells (tellCs (lastV V.l)).toArray 47 (0, 0)) ∧ w8.heap.size ≤ y) := ⟨hy9, hle9⟩
         have HB9 : Hid (Below w8.heap.size w8 w9) := hb9
         clear hy9 hle9 hb9)
      | fail)
    simp only [bodyPostD]
    have h4 := HL.out.below (trans2 H8.out HB9.out)
    have hbb := (HL.out.below H8.out).lt
    refine leaves_cons (f := 26) (args := #[.pointer (some ⟨b, 1, none⟩)]) (by simp) (by simp [go_sem]) ?_
    refine (unlock_deferred Try.muLib ⟨b, 1, none⟩ .returning _ h4.lock (h4.free 1)).mono ?_
    rintro e u' w'' ⟨rfl, rfl, rfl⟩
    refine ⟨_, results_tmp rfl _ _ _, _, rfl, .inr ⟨y, lastV V.l, HE.out.2, rfl, other_blk HY9.out.1 (by have := HY9.out.2; omega), ?_⟩, by rw [HE.out.1]; exact h4.locked 0, (HCX.out.trans (Chg.of_below (trans2 H8.out HB9.out) _)).trans (Chg.set _ _ _)⟩
    exact Nat.le_trans (HCX.out.trans (Chg.of_below H8.out _)).size HY9.out.2
end Go.Proofs.Ytlbhnlpdijhmlaa
