import Derived.Test.YtaieijbdknfcjaaGreatDoorSBase
namespace Go.Proofs.YtaieijbdknfcjaaGreatDoor
open Go.RowKit Classical
set_option linter.unusedVariables false
set_option linter.unusedSimpArgs false

theorem list_ne {x y : ByteArray} (h : x ≠ y) : (x.toList == y.toList) = false := by
  refine beq_eq_false_iff_ne.2 fun e => h ?_
  rw [ByteArray.toList_eq, ByteArray.toList_eq] at e
  obtain ⟨⟨x⟩⟩ := x
  obtain ⟨⟨y⟩⟩ := y
  simp at e
  rw [e]
theorem toList_ne {x y : ByteArray} (h : x ≠ y) : ¬ x.toList = y.toList := beq_eq_false_iff_ne.1 (list_ne h)
theorem seen_ne {x y : SeenT} (h : x ≠ y) : (x.p.toList == y.p.toList) = false ∨ (x.p = y.p ∧ (x.d.toList == y.d.toList) = false) ∨ (x.p = y.p ∧ x.d = y.d ∧ (x.v == y.v) = false) := by
  by_cases hp : x.p = y.p
  · by_cases hd : x.d = y.d
    · by_cases hv : x.v = y.v
      · exact absurd (by cases x; cases y; simp_all) h
      · exact .inr (.inr ⟨hp, hd, by simpa using hv⟩)
    · exact .inr (.inl ⟨hp, list_ne hd⟩)
  · exact .inl (list_ne hp)
set_option maxHeartbeats 3200000 in
set_option maxRecDepth 100000 in
theorem refSame_eq (st st' : Int) (p : ByteArray) (k : Int) (a a' : Option Addr) (c c' n : Nat) (l l' : List SeenT) (w : World) (hs : Ss w a l) (ht : Ss w a' l') (hn : l.length = n) (hn' : l'.length = n) (hl : n ≤ maxLen) :
    Calls Tryz.prog 24 #[.agg #[.int .i64 st, .string p, .int .i64 k, .slice a n c], .agg #[.int .i64 st', .string p, .int .i64 k, .slice a' n c']] w fun e w' => e = .returned (.bool (decide (l = l'))) ∧ Below w.heap.size w w' := by
  unfold maxLen at hl
  have HS : Hid (Ss w a l) := hs
  have HT : Hid (Ss w a' l') := ht
  clear hs ht
  go_enter Tryz.func24, Tryz.ntmps24
  go_wp2_with fail
  go_loopw [5] (fun i wr => ∃ q : Nat, i = .int .i64 q ∧ q ≤ n ∧ l.take q = l'.take q ∧ Hid (Below w.heap.size w wr) ∧ Hid (wr.cell? ⟨w.heap.size, 3, none⟩ = some (.slice a n c)) ∧ Hid (wr.cell? ⟨w.heap.size + 1, 3, none⟩ = some (.slice a' n c'))) (fun i _ => n - (intOf i).toNat)
  case atStart =>
    refine ⟨0, rfl, Nat.zero_le _, rfl, ((Below.refl _ _).alloc (Nat.le_refl _) _).alloc (by simp) _, ?_, ?_⟩
    · exact cell_of_row _ _ 3 _ _ _ (new_old (heap_alloc_new _ _) _)
    · exact cell_of_row _ _ 3 _ _ _ (heap_new' (by simp))
  case round =>
    obtain ⟨q, rfl, hq, htk, HB, HC, HD⟩ := hrel
    by_cases hlt : q < n
    · obtain ⟨x, hx⟩ : ∃ x, l[q]? = some x := ⟨l[q], List.getElem?_eq_getElem (by omega)⟩
      obtain ⟨y, hy⟩ : ∃ y, l'[q]? = some y := ⟨l'[q]'(by omega), List.getElem?_eq_getElem _⟩
      obtain ⟨b, o, rfl, hb, x0, x1, x2⟩ := (HS.out.below HB.out).at hx
      obtain ⟨b', o', rfl, hb', y0, y1, y2⟩ := (HT.out.below HB.out).at hy
      have c3 := HC.out
      have d3 := HD.out
      have hlt' : (q : Int) < (n : Int) := by omega
      by_cases hxy : x = y
      · have HE : Hid (l.take (q + 1) = l'.take (q + 1)) := by subst hxy; exact same_step hx hy htk
        subst hxy
        clear htk hx hy hn hn'
        go_wp2_with fail
        go_region_held3 (fun w' => w'.cell? ⟨w.heap.size, 3, none⟩ = some (.slice (some ⟨b, o, none⟩) n c) ∧ w'.cell? ⟨w.heap.size + 1, 3, none⟩ = some (.slice (some ⟨b', o', none⟩) n c') ∧ w'.cell? ⟨b, o + q * 3, none⟩ = some (.string x.p) ∧ w'.cell? ⟨b, o + q * 3 + 1, none⟩ = some (.string x.d) ∧ w'.cell? ⟨b, o + q * 3 + 2, none⟩ = some (.int .i64 x.v) ∧ w'.cell? ⟨b', o' + q * 3, none⟩ = some (.string x.p) ∧ w'.cell? ⟨b', o' + q * 3 + 1, none⟩ = some (.string x.d) ∧ w'.cell? ⟨b', o' + q * 3 + 2, none⟩ = some (.int .i64 x.v)) (go_keep) (fail)
        go_wp2_with fail
        go_roundw
        case rel => exact ⟨q + 1, by go_num, by omega, HE.out, below_drew HB.out, HC.out, HD.out⟩
        case measure => simp [intOf]; omega
      · have hne : l ≠ l' := same_part hx hy hxy
        clear htk hx hy
        rcases seen_ne hxy with h1 | ⟨h0, h1⟩ | ⟨h0, h0', h1⟩
        · go_wp2_with fail
          go_region_held3 (fun w' => w'.cell? ⟨w.heap.size, 3, none⟩ = some (.slice (some ⟨b, o, none⟩) n c) ∧ w'.cell? ⟨w.heap.size + 1, 3, none⟩ = some (.slice (some ⟨b', o', none⟩) n c') ∧ w'.cell? ⟨b, o + q * 3, none⟩ = some (.string x.p) ∧ w'.cell? ⟨b, o + q * 3 + 1, none⟩ = some (.string x.d) ∧ w'.cell? ⟨b, o + q * 3 + 2, none⟩ = some (.int .i64 x.v) ∧ w'.cell? ⟨b', o' + q * 3, none⟩ = some (.string y.p) ∧ w'.cell? ⟨b', o' + q * 3 + 1, none⟩ = some (.string y.d) ∧ w'.cell? ⟨b', o' + q * 3 + 2, none⟩ = some (.int .i64 y.v)) (go_keep) (fail)
          go_wp2_with fail
          go_ret
          exact ⟨by rw [decide_eq_false hne]; rfl, below_drew HB.out⟩
        · rw [← h0] at y0
          go_wp2_with fail
          go_region_held3 (fun w' => w'.cell? ⟨w.heap.size, 3, none⟩ = some (.slice (some ⟨b, o, none⟩) n c) ∧ w'.cell? ⟨w.heap.size + 1, 3, none⟩ = some (.slice (some ⟨b', o', none⟩) n c') ∧ w'.cell? ⟨b, o + q * 3, none⟩ = some (.string x.p) ∧ w'.cell? ⟨b, o + q * 3 + 1, none⟩ = some (.string x.d) ∧ w'.cell? ⟨b, o + q * 3 + 2, none⟩ = some (.int .i64 x.v) ∧ w'.cell? ⟨b', o' + q * 3, none⟩ = some (.string x.p) ∧ w'.cell? ⟨b', o' + q * 3 + 1, none⟩ = some (.string y.d) ∧ w'.cell? ⟨b', o' + q * 3 + 2, none⟩ = some (.int .i64 y.v)) (go_keep) (fail)
          go_wp2_with fail
          go_ret
          exact ⟨by rw [decide_eq_false hne]; rfl, below_drew HB.out⟩
        · rw [← h0] at y0
          rw [← h0'] at y1
          go_wp2_with fail
          go_region_held3 (fun w' => w'.cell? ⟨w.heap.size, 3, none⟩ = some (.slice (some ⟨b, o, none⟩) n c) ∧ w'.cell? ⟨w.heap.size + 1, 3, none⟩ = some (.slice (some ⟨b', o', none⟩) n c') ∧ w'.cell? ⟨b, o + q * 3, none⟩ = some (.string x.p) ∧ w'.cell? ⟨b, o + q * 3 + 1, none⟩ = some (.string x.d) ∧ w'.cell? ⟨b, o + q * 3 + 2, none⟩ = some (.int .i64 x.v) ∧ w'.cell? ⟨b', o' + q * 3, none⟩ = some (.string x.p) ∧ w'.cell? ⟨b', o' + q * 3 + 1, none⟩ = some (.string x.d) ∧ w'.cell? ⟨b', o' + q * 3 + 2, none⟩ = some (.int .i64 y.v)) (go_keep) (fail)
          go_wp2_with fail
          go_ret
          exact ⟨by rw [decide_eq_false hne]; rfl, below_drew HB.out⟩
    · obtain rfl : q = n := by omega
      have c3 := HC.out
      have hge : ¬ (q : Int) < (q : Int) := by omega
      go_wp2_with fail
      go_ret
      have he : l = l' := by rw [List.take_of_length_le (by omega), List.take_of_length_le (by omega)] at htk; exact htk
      exact ⟨by rw [decide_eq_true he]; rfl, HB.out⟩

set_option maxHeartbeats 3200000 in
set_option maxRecDepth 100000 in
theorem refSame_any (s t : ShT) (w : World) (hs : Ss w s.a s.l) (ht : Ss w t.a t.l) (hl : s.l.length ≤ maxLen) :
    Calls Tryz.prog 24 #[s.val, t.val] w fun e w' => e = .returned (.bool (decide (s.p = t.p ∧ s.k = t.k ∧ s.l = t.l))) ∧ Below w.heap.size w w' := by
  by_cases hp : s.p = t.p
  · by_cases hk : s.k = t.k
    · by_cases hn : s.l.length = t.l.length
      · have := refSame_eq s.st t.st s.p s.k s.a t.a s.c t.c s.l.length s.l t.l w hs ht rfl hn.symm hl
        unfold ShT.val
        rw [← hp, ← hk, ← hn]
        refine this.mono ?_
        rintro e w' ⟨rfl, hb⟩
        exact ⟨by simp, hb⟩
      · have HX : Hid (¬ (s.p = t.p ∧ s.k = t.k ∧ s.l = t.l)) := fun h => hn (by rw [h.2.2])
        have hn' : ¬ (s.l.length : Int) = (t.l.length : Int) := by omega
        clear hs ht
        go_enter Tryz.func24, Tryz.ntmps24
        go_wp2_with fail
        go_ret
        exact ⟨by rw [decide_eq_false HX.out]; rfl, ((Below.refl _ _).alloc (Nat.le_refl _) _).alloc (by simp) _⟩
    · have HX : Hid (¬ (s.p = t.p ∧ s.k = t.k ∧ s.l = t.l)) := fun h => hk h.2.1
      clear hs ht
      go_enter Tryz.func24, Tryz.ntmps24
      go_wp2_with fail
      go_ret
      exact ⟨by rw [decide_eq_false HX.out]; rfl, ((Below.refl _ _).alloc (Nat.le_refl _) _).alloc (by simp) _⟩
  · have HX : Hid (¬ (s.p = t.p ∧ s.k = t.k ∧ s.l = t.l)) := fun h => hp h.1
    have hp' := toList_ne hp
    clear hs ht
    go_enter Tryz.func24, Tryz.ntmps24
    go_wp2_with fail
    go_ret
    exact ⟨by rw [decide_eq_false HX.out]; rfl, ((Below.refl _ _).alloc (Nat.le_refl _) _).alloc (by simp) _⟩
end Go.Proofs.YtaieijbdknfcjaaGreatDoor
namespace Go.Proofs.YtaieijbdknfcjaaGreatDoor
open Go.RowKit Classical
set_option linter.unusedVariables false
set_option linter.unusedSimpArgs false

end Go.Proofs.YtaieijbdknfcjaaGreatDoor
namespace Go.Proofs.YtaieijbdknfcjaaGreatDoor
open Go.RowKit Classical
set_option linter.unusedVariables false
set_option linter.unusedSimpArgs false

theorem Tryz.infoS : (Tryz.prog.info? 36).map (fun i => (i.zero, i.size, i.bytes)) = some (some (.agg #[.string ⟨#[]⟩, .string ⟨#[]⟩, .int .i64 0]), 3, 40) := by kernel_rfl
abbrev pB : ByteArray := ⟨#[98, 101, 104, 105, 110, 100]⟩
abbrev markT : SeenT := ⟨pB, ⟨#[]⟩, 91⟩
set_option maxHeartbeats 3200000 in
set_option maxRecDepth 100000 in
theorem alike_any (s t : ShT) (w : World) (hs : Ss w s.a s.l) (ht : Ss w t.a t.l) (hl : s.l.length ≤ maxLen) (hst : s.st = t.st) :
    Calls Tryz.prog 15 #[s.val, t.val] w fun e w' => e = .returned (.bool (decide (s.p = t.p ∧ s.k = t.k ∧ s.l = t.l))) ∧ Below w.heap.size w w' := by
  obtain ⟨st, p, k, a, c, l⟩ := s
  obtain ⟨st', p', k', a', c', l'⟩ := t
  simp only at hst
  subst hst
  have HB : Hid (Below w.heap.size w ((w.alloc (.cells #[.int .i64 st, .string p, .int .i64 k, .slice a l.length c] 24)).alloc (.cells #[.int .i64 st, .string p', .int .i64 k', .slice a' l'.length c'] 24))) := ((Below.refl _ _).alloc (Nat.le_refl _) _).alloc (by simp) _
  have HQ : Hid _ := refSame_any ⟨st, p, k, a, c, l⟩ ⟨st, p', k', a', c', l'⟩ _ (hs.below HB.out) (ht.below HB.out) hl
  go_enter Tryz.func15, Tryz.ntmps15
  go_wp2_with fail
  refine Calls.mono HQ.out ?_
  rintro e w' ⟨rfl, hb⟩
  go_wp2_with fail
  go_ret
  exact ⟨by simp, HB.out.trans (hb.mono HB.out.size)⟩

theorem grown_other {w w' : World} {base e n b : Nat} {v : Value} {xs : List Value} {o : Obj} {cs : Array Value} {t : TypeId} (hr : w.ownsRow base e 3 v n xs) (hg : (w.alloc o).grownBy w' v.ownBlock) (h : w.heap[b]? = some (.cells cs t (0, 0))) (ht : t ≠ e) : w'.heap[b]? = some (.cells cs t (0, 0)) := by
  rw [hg.block b (by simp; have := lt_of_blk h; omega) (fun he => ?_)]
  · exact new_old h _
  · obtain ⟨cur, hc⟩ := owns_kind hr he.symm
    rw [h] at hc
    injection hc with hc
    injection hc with _ h2 _
    exact ht h2
theorem owns_cap {w : World} {B e s n g cap : Nat} {xs : List Value} (h : w.ownsRow B e s (.slice (some ⟨g, 0, none⟩) n cap) n xs) : n ≤ cap := by
  rcases h.2 with ⟨h0, _⟩ | ⟨g', cap', cur, hv, _, hg, hn, _⟩
  · cases h0
  · cases hv
    exact hn
theorem wpList_app {w : World} {ops : Array Oper} {rest : List Oper} {o : Oper} {act : Act} {Q : Exit → Act → World → Prop} (hgd : o.guard = none) (s x : Operand)
    (ho : o.op = .call { callee := .builtin .append, args := #[s, x], argTypes := #[22, 22] }) (base : Nat) (v : Value) (n : Nat) (xs : List Value) (hs : act.eval s = v) (hown : w.ownsRow base 36 3 v n xs)
    (ad : Option Addr) (m c : Nat) (ys : List SeenT) (hx : act.eval x = .slice ad m c) (hm : m = ys.length) (hby : Ss w ad ys) (hn : ad = none → c = 0) (hlen : n + ys.length ≤ 1000000) (hB : base ≤ w.heap.size)
    (h : ∀ v' w', w'.ownsRow base 36 3 v' (n + ys.length) (xs ++ seCs ys) → w.grownBy w' v.ownBlock → wpList Tryz.prog ops Q rest (act.put o.dst v') w') : wpList Tryz.prog ops Q (o :: rest) act w := by
  obtain ⟨i0, hi, hz0, hz1, hz2⟩ := info_parts Tryz.infoS
  subst hm
  cases ad with
  | none =>
    have hc0 := hn rfl
    subst hc0
    have hys : ys = [] := by
      rcases hby with h | ⟨b, o, h, _⟩
      · exact h
      · cases h
    subst hys
    refine wpList_append_own_none hgd s x 22 ho base 36 i0 3 Tryz.underlying22 hi _ _ _ hs hown hx ?_
    have := h v w (by simpa [seCs] using hown) ⟨rfl, rfl, rfl, Nat.le_refl _, fun _ _ _ => rfl⟩
    exact this
  | some ad =>
    refine wpList_append_own_at _ hgd s x 22 ho base 36 i0 _ 3 40 Tryz.underlying22 hi hz0 hz1 hz2 rfl (by decide) v n xs hs hown ad ys.length c (seCs ys) hx (seCs_len _) (ss_news hby) (seCs_one _) (by unfold maxLen; omega) (by omega) hB ?_
    intro v' w' ho' hg' _ _
    exact h v' w' ho' hg'

set_option maxHeartbeats 3200000 in
set_option maxRecDepth 100000 in
theorem roomy_any (base : Nat) (st : Int) (p : ByteArray) (k : Int) (a : Option Addr) (c : Nat) (l : List SeenT) (w : World) (hs : Ss w a l) (hl : l.length ≤ 1000) (hb : base ≤ w.heap.size) (hn : a = none → c = 0) :
    Calls Tryz.prog 5 #[.agg #[.int .i64 st, .string p, .int .i64 k, .slice a l.length c]] w fun e w' => ∃ g cap, e = .returned (.agg #[.int .i64 st, .string p, .int .i64 k, .slice (some ⟨g, 0, none⟩) l.length cap]) ∧ w'.ownsRow base 36 3 (.slice (some ⟨g, 0, none⟩) (l.length + 1) cap) (l.length + 1) (seCs l ++ markT.cells) ∧ Below base w w' := by
  obtain ⟨i0, hi0, hz0, hz1, hz2⟩ := info_parts Tryz.infoS
  have HB0 : Hid (Below w.heap.size w ((w.alloc (.cells #[.int .i64 st, .string p, .int .i64 k, .slice a l.length c] 24)).alloc (.cells #[.int .i64 0, .string ⟨#[]⟩, .int .i64 0, .slice none 0 0] 24))) := ((Below.refl _ _).alloc (Nat.le_refl _) _).alloc (by simp) _
  have HS : Hid (Ss ((w.alloc (.cells #[.int .i64 st, .string p, .int .i64 k, .slice a l.length c] 24)).alloc (.cells #[.int .i64 0, .string ⟨#[]⟩, .int .i64 0, .slice none 0 0] 24)) a l) := hs.below HB0.out
  have HA : Hid (((w.alloc (.cells #[.int .i64 st, .string p, .int .i64 k, .slice a l.length c] 24)).alloc (.cells #[.int .i64 0, .string ⟨#[]⟩, .int .i64 0, .slice none 0 0] 24)).heap[w.heap.size]? = some (.cells #[.int .i64 st, .string p, .int .i64 k, .slice a l.length c] 24 (0, 0))) := new_old (heap_alloc_new _ _) _
  have HR : Hid (((w.alloc (.cells #[.int .i64 st, .string p, .int .i64 k, .slice a l.length c] 24)).alloc (.cells #[.int .i64 0, .string ⟨#[]⟩, .int .i64 0, .slice none 0 0] 24)).heap[w.heap.size + 1]? = some (.cells #[.int .i64 0, .string ⟨#[]⟩, .int .i64 0, .slice none 0 0] 24 (0, 0))) := heap_new' (by simp)
  clear hs
  go_enter Tryz.func5, Tryz.ntmps5
  go_wp2_with (first
    | (at_builtin; refine wpList_app rfl _ _ rfl base (.slice none 0 0) 0 [] rfl (World.ownsRow_nil _ _ _ _) a l.length c l rfl rfl HS.out hn (by omega) (by simp; omega) ?_
       intro v1 w1 ho1 hg1
       have HO1 : Hid _ := ho1
       have HB1 : Hid (Below w.heap.size w w1) := HB0.out.trans (by have h := Below.grown (B := w.heap.size) (Below.refl _ _) hg1 (by simp; omega) (fun k h => by cases h); exact h)
       have HA1 : Hid (w1.heap[w.heap.size]? = some (.cells #[.int .i64 st, .string p, .int .i64 k, .slice a l.length c] 24 (0, 0))) := by show _ = _; rw [hg1.block _ (by simp; omega) (fun h => by cases h)]; exact HA.out
       have HR1 : Hid (w1.heap[w.heap.size + 1]? = some (.cells #[.int .i64 0, .string ⟨#[]⟩, .int .i64 0, .slice none 0 0] 24 (0, 0))) := by show _ = _; rw [hg1.block _ (by simp) (fun h => by cases h)]; exact HR.out
       have HM : Hid _ := mark_any w1
       clear ho1 hg1)
    | fail)
  refine Calls.mono HM.out ?_
  rintro e w2 ⟨rfl, hb2⟩
  have HB2 : Hid (Below w1.heap.size w1 w2) := hb2
  have HO2 : Hid (w2.ownsRow base 36 3 v1 (0 + l.length) ([] ++ seCs l)) := owns_below HO1.out HB2.out
  have HA2 : Hid _ := kept_block HB2.out HA1.out
  have HR2 : Hid _ := kept_block HB2.out HR1.out
  have hs1 := HB1.out.size
  have hs2 := HB2.out.size
  have hsz := HR1.out
  have hsz1 : w.heap.size + 1 < w1.heap.size := lt_of_blk HR1.out
  clear hb2 hsz
  go_wp2_with (first
    | (at_builtin; refine wpList_append_lies _ rfl _ _ _ rfl base 36 i0 _ 3 40 Tryz.underlying22 hi0 hz0 hz1 hz2 rfl (by omega) v1 (0 + l.length) ([] ++ seCs l) rfl (World.ownsRow.alloc HO2.out _) ⟨w2.heap.size, 0, none⟩ 1 1 markT.cells rfl rfl (World.news_of_block (cs := #[.string pB, .string ⟨#[]⟩, .int .i64 91]) (t := 36) (fr := (0, 0)) (heap_alloc_new w2 _)) (by simp [Value.oneCell']) (by omega) (by unfold maxLen; omega) (by omega) (by simp; omega) (w2.heap.size + 1) (by simp) ?_
       intro g4 cap4 w4 hown4 hgrow4 hat4 hlt4
       have HN4 : Hid (w4.ownsRow base 36 3 (.slice (some ⟨g4, 0, none⟩) (l.length + 1) cap4) (l.length + 1) (seCs l ++ markT.cells)) := by rw [Nat.zero_add] at hown4; exact hown4
       have HA4 : Hid (w4.heap[w.heap.size]? = some (.cells #[.int .i64 st, .string p, .int .i64 k, .slice a l.length c] 24 (0, 0))) := grown_other HO2.out hgrow4 HA2.out (by decide)
       have HR4 : Hid (w4.heap[w.heap.size + 1]? = some (.cells #[.int .i64 0, .string ⟨#[]⟩, .int .i64 0, .slice none 0 0] 24 (0, 0))) := grown_other HO2.out hgrow4 HR2.out (by decide)
       have HB4 : Hid (Below base w w4) := ((HB1.out.mono hb).trans (HB2.out.mono (by omega))).trans (((Below.refl _ _).alloc (by omega) _).grown hgrow4 (by simp; omega) (fun j hj => (HO2.out.lt j hj).1))
       have hcap4 := owns_cap HN4.out
       have c4 := cells_4 HA4.out
       have f4 := free_4 HA4.out
       have r4 := cells_4 HR4.out
       have fr4 := free_4 HR4.out
       have hle4 : (l.length : Int) ≤ (cap4 : Int) := by omega
       clear hown4 hgrow4 hat4 hlt4)
    | fail)
  have HW : Hid (Below base w (put_4 (w4.setCell ⟨w.heap.size, 3, none⟩ (.slice (some ⟨g4, 0, none⟩) l.length cap4)) (w.heap.size + 1) (.int .i64 st) (.string p) (.int .i64 k) (.slice (some ⟨g4, 0, none⟩) l.length cap4))) := fillB_4 (HB4.out.setCell hb _) (by omega)
  refine bodyPost_ret (results_cell_row rfl _ _ (w.heap.size + 1) 24 _ (0, 0) _ rfl (fill_4 (other_blk HR4.out (by omega))) Tryz.underlying24 rfl (by kernel_rfl)) rfl ⟨g4, cap4, rfl, owns_same HN4.out (fun j hj => ?_), HW.out⟩
  obtain ⟨cur, hc⟩ := owns_kind HN4.out hj
  have h1 : j ≠ w.heap.size := fun e => by
    have := HA4.out
    rw [← e, hc] at this
    cases this
  have h2 : j ≠ w.heap.size + 1 := fun e => by
    have := HR4.out
    rw [← e, hc] at this
    cases this
  rw [hc]
  exact fillO_4 (other_blk hc h1) h2
end Go.Proofs.YtaieijbdknfcjaaGreatDoor
