import Derived.Test.YtbamkdohaofgdaaGreatDoorSBase
namespace Go.Proofs.YtbamkdohaofgdaaGreatDoor
open Go.RowKit Classical
set_option linter.unusedVariables false
set_option linter.unusedSimpArgs false

theorem list_ne {x y : ByteArray} (h : x ≠ y) : (x.toList == y.toList) = false := by
  refine beq_eq_false_iff_ne.2 fun e => h ?_
  rw [ByteArray.toList_eq, ByteArray.toList_eq] at e
  obtain ⟨⟨x⟩⟩ := x
  obtain ⟨⟨y⟩⟩ := y
  simp at e
  rw [e]
theorem toList_ne {x y : ByteArray} (h : x ≠ y) : ¬ x.toList = y.toList := beq_eq_false_iff_ne.1 (list_ne h)
theorem seen_ne {x y : SeenT} (h : x ≠ y) : (x.p.toList == y.p.toList) = false ∨ (x.p = y.p ∧ (x.d.toList == y.d.toList) = false) ∨ (x.p = y.p ∧ x.d = y.d ∧ (x.v == y.v) = false) := by
  by_cases hp : x.p = y.p
  · by_cases hd : x.d = y.d
    · by_cases hv : x.v = y.v
      · exact absurd (by cases x; cases y; simp_all) h
      · exact .inr (.inr ⟨hp, hd, by simpa using hv⟩)
    · exact .inr (.inl ⟨hp, list_ne hd⟩)
  · exact .inl (list_ne hp)
end Go.Proofs.YtbamkdohaofgdaaGreatDoor
namespace Go.Proofs.YtbamkdohaofgdaaGreatDoor
open Go.RowKit Classical
set_option linter.unusedVariables false
set_option linter.unusedSimpArgs false

set_option maxHeartbeats 3200000 in
set_option maxRecDepth 100000 in
theorem equal_any (a a' : Option Addr) (c c' : Nat) (l l' : List SeenT) (w : World) (hs : Ss w a l) (ht : Ss w a' l') (hl : l.length ≤ maxLen) :
    Calls Tryz.prog 20 #[.slice a l.length c, .slice a' l'.length c'] w fun e w' => e = .returned (.bool (decide (l = l'))) ∧ Below w.heap.size w w' := by
  unfold maxLen at hl
  have HS : Hid (Ss w a l) := hs
  have HT : Hid (Ss w a' l') := ht
  clear hs ht
  by_cases hn : l.length = l'.length
  · obtain ⟨n, hn1⟩ : ∃ n, l.length = n := ⟨_, rfl⟩
    have hn2 : l'.length = n := by omega
    rw [hn2, hn1]
    rw [hn1] at hl
    clear hn
    go_enter Tryz.func20, Tryz.ntmps20
    go_wp2_with fail
    go_loopw [13] (fun i wr => ∃ q : Nat, i = .int .i64 q ∧ q ≤ n ∧ l.take q = l'.take q ∧ Hid (Below w.heap.size w wr)) (fun i _ => n - (intOf i).toNat)
    case atStart => exact ⟨0, rfl, Nat.zero_le _, rfl, Below.refl _ _⟩
    case round =>
      obtain ⟨q, rfl, hq, htk, HB⟩ := hrel
      by_cases hlt : q < n
      · obtain ⟨x, hx⟩ : ∃ x, l[q]? = some x := ⟨l[q], List.getElem?_eq_getElem (by omega)⟩
        obtain ⟨y, hy⟩ : ∃ y, l'[q]? = some y := ⟨l'[q]'(by omega), List.getElem?_eq_getElem _⟩
        obtain ⟨b, o, rfl, hb, x0, x1, x2⟩ := (HS.out.below HB.out).at hx
        obtain ⟨b', o', rfl, hb', y0, y1, y2⟩ := (HT.out.below HB.out).at hy
        have hlt' : (q : Int) < (n : Int) := by omega
        by_cases hxy : x = y
        · have HE : Hid (l.take (q + 1) = l'.take (q + 1)) := by subst hxy; exact same_step hx hy htk
          subst hxy
          clear htk hx hy hn1 hn2
          go_wp2_with fail
          go_region_held3 (fun w' => w'.cell? ⟨b, o + q * 3, none⟩ = some (.string x.p) ∧ w'.cell? ⟨b, o + q * 3 + 1, none⟩ = some (.string x.d) ∧ w'.cell? ⟨b, o + q * 3 + 2, none⟩ = some (.int .i64 x.v) ∧ w'.cell? ⟨b', o' + q * 3, none⟩ = some (.string x.p) ∧ w'.cell? ⟨b', o' + q * 3 + 1, none⟩ = some (.string x.d) ∧ w'.cell? ⟨b', o' + q * 3 + 2, none⟩ = some (.int .i64 x.v)) (go_keep) (fail)
          go_wp2_with fail
          go_roundw
          case rel => exact ⟨q + 1, by go_num, by omega, HE.out, below_drew HB.out⟩
          case measure => simp [intOf]; omega
        · have hne : l ≠ l' := same_part hx hy hxy
          clear htk hx hy
          rcases seen_ne hxy with h1 | ⟨h0, h1⟩ | ⟨h0, h0', h1⟩
          · go_wp2_with fail
            go_region_held3 (fun w' => w'.cell? ⟨b, o + q * 3, none⟩ = some (.string x.p) ∧ w'.cell? ⟨b, o + q * 3 + 1, none⟩ = some (.string x.d) ∧ w'.cell? ⟨b, o + q * 3 + 2, none⟩ = some (.int .i64 x.v) ∧ w'.cell? ⟨b', o' + q * 3, none⟩ = some (.string y.p) ∧ w'.cell? ⟨b', o' + q * 3 + 1, none⟩ = some (.string y.d) ∧ w'.cell? ⟨b', o' + q * 3 + 2, none⟩ = some (.int .i64 y.v)) (go_keep) (fail)
            go_wp2_with fail
            go_ret
            exact ⟨by rw [decide_eq_false hne]; rfl, below_drew HB.out⟩
          · rw [← h0] at y0
            go_wp2_with fail
            go_region_held3 (fun w' => w'.cell? ⟨b, o + q * 3, none⟩ = some (.string x.p) ∧ w'.cell? ⟨b, o + q * 3 + 1, none⟩ = some (.string x.d) ∧ w'.cell? ⟨b, o + q * 3 + 2, none⟩ = some (.int .i64 x.v) ∧ w'.cell? ⟨b', o' + q * 3, none⟩ = some (.string x.p) ∧ w'.cell? ⟨b', o' + q * 3 + 1, none⟩ = some (.string y.d) ∧ w'.cell? ⟨b', o' + q * 3 + 2, none⟩ = some (.int .i64 y.v)) (go_keep) (fail)
            go_wp2_with fail
            go_ret
            exact ⟨by rw [decide_eq_false hne]; rfl, below_drew HB.out⟩
          · rw [← h0] at y0
            rw [← h0'] at y1
            go_wp2_with fail
            go_region_held3 (fun w' => w'.cell? ⟨b, o + q * 3, none⟩ = some (.string x.p) ∧ w'.cell? ⟨b, o + q * 3 + 1, none⟩ = some (.string x.d) ∧ w'.cell? ⟨b, o + q * 3 + 2, none⟩ = some (.int .i64 x.v) ∧ w'.cell? ⟨b', o' + q * 3, none⟩ = some (.string x.p) ∧ w'.cell? ⟨b', o' + q * 3 + 1, none⟩ = some (.string x.d) ∧ w'.cell? ⟨b', o' + q * 3 + 2, none⟩ = some (.int .i64 y.v)) (go_keep) (fail)
            go_wp2_with fail
            go_ret
            exact ⟨by rw [decide_eq_false hne]; rfl, below_drew HB.out⟩
      · obtain rfl : q = n := by omega
        have hge : ¬ (q : Int) < (q : Int) := by omega
        go_wp2_with fail
        go_ret
        have he : l = l' := by rw [List.take_of_length_le (by omega), List.take_of_length_le (by omega)] at htk; exact htk
        exact ⟨by rw [decide_eq_true he]; rfl, HB.out⟩
  · have hn' : ¬ (l.length : Int) = (l'.length : Int) := by omega
    have hne : l ≠ l' := fun h => hn (by rw [h])
    have HX : Hid (l ≠ l') := hne
    clear hne
    go_enter Tryz.func20, Tryz.ntmps20
    go_wp2_with fail
    go_ret
    exact ⟨by rw [decide_eq_false HX.out]; rfl, Below.refl _ _⟩

set_option maxHeartbeats 3200000 in
set_option maxRecDepth 100000 in
theorem same_any (s t : ShT) (w : World) (hs : Ss w s.a s.l) (ht : Ss w t.a t.l) (hl : s.l.length ≤ maxLen) :
    Calls Tryz.prog 8 #[s.val, t.val] w fun e w' => e = .returned (.bool (decide (s.p = t.p ∧ s.k = t.k ∧ s.l = t.l))) ∧ Below w.heap.size w w' := by
  have HB : Hid (Below w.heap.size w ((w.alloc (.cells #[.int .i64 s.st, .string s.p, .int .i64 s.k, .slice s.a s.l.length s.c] 24)).alloc (.cells #[.int .i64 t.st, .string t.p, .int .i64 t.k, .slice t.a t.l.length t.c] 24))) := ((Below.refl _ _).alloc (Nat.le_refl _) _).alloc (by simp) _
  have HQ : Hid _ := equal_any s.a t.a s.c t.c s.l t.l _ (hs.below HB.out) (ht.below HB.out) hl
  by_cases hp : s.p = t.p
  · by_cases hk : s.k = t.k
    · obtain ⟨st, p, k, a, c, l⟩ := s
      obtain ⟨st', p', k', a', c', l'⟩ := t
      simp only at hp hk
      subst hp hk
      clear hs ht
      go_enter Tryz.func8, Tryz.ntmps8
      go_wp2_with fail
      refine Calls.mono HQ.out ?_
      rintro e w' ⟨rfl, hb⟩
      go_wp2_with fail
      go_ret
      exact ⟨by simp, HB.out.trans (hb.mono HB.out.size)⟩
    · have HX : Hid (¬ (s.p = t.p ∧ s.k = t.k ∧ s.l = t.l)) := fun h => hk h.2.1
      clear hs ht
      go_enter Tryz.func8, Tryz.ntmps8
      go_wp2_with fail
      go_ret
      exact ⟨rfl, ((Below.refl _ _).alloc (Nat.le_refl _) _).alloc (by simp) _⟩
  · have HX : Hid (¬ (s.p = t.p ∧ s.k = t.k ∧ s.l = t.l)) := fun h => hp h.1
    have hp' := toList_ne hp
    clear hs ht
    go_enter Tryz.func8, Tryz.ntmps8
    go_wp2_with fail
    go_ret
    exact ⟨rfl, ((Below.refl _ _).alloc (Nat.le_refl _) _).alloc (by simp) _⟩
end Go.Proofs.YtbamkdohaofgdaaGreatDoor
