/-
  line: own.go: marked.
-/
import Derived.Test.YtfcobhgjkibdgaaLOwD
namespace Go.Proofs.Ytfcobhgjkibdgaa
open Go.RowKit Go.Maps
set_option linter.unusedVariables false
set_option linter.unusedSimpArgs false

theorem ins_len {w : World} {B : Nat} {v : Value} {xs : List Int} (h : InsOwn w B v xs) : ∃ a c, v = .slice a xs.length c := by obtain ⟨a, c, h, _⟩ := row_form h; exact ⟨a, c, h⟩
theorem ints_own (l : List Int) (v u : Value) (w : World) {B B' : Nat} (h1 : InsOwn w B v l) (h2 : InsOwn w B' u l) (hl : l.length ≤ 1000000) : Calls Try.prog 26 #[v, u] w fun e w' => e = .returned (.bool true) ∧ Below w.heap.size w w' :=
  ints_same l v u w (fun _ => True) (fun _ => True) (ins_at h1 (fun _ _ => trivial)) (ins_at h2 (fun _ _ => trivial)) hl
set_option maxHeartbeats 6400000 in
set_option maxRecDepth 100000 in
theorem marked_any (w : World) (K1 K2 : Nat → Prop) (p1 p2 v : Value) (l : List StL) (P : Nat → Prop) (h1 : AtL w K1 ln0 p1) (h2 : AtL w K2 ln0 p2) (hap : ∀ j, K1 j → ¬ K2 j) (hl : StsAt w P v l) (hP : ∀ j, P j → ¬ K1 j ∧ ¬ K2 j) (hwf : ∀ x ∈ l, (Lit.int .i64 x.n).wf = true) :
    Calls Try.prog 22 #[p1, p2, v] w fun e w' => e = .returned (.bool true) ∧ Chg w w' (fun j => K1 j ∨ K2 j) := by
  obtain ⟨sa, sc, rfl, _⟩ := RowAt.form hl
  obtain ⟨sn, hsn⟩ : ∃ z, l.length = z := ⟨_, rfl⟩
  rw [hsn] at hl ⊢
  obtain ⟨o1, ho1⟩ : ∃ o, p1 = .pointer o := by rcases h1.ptr with h | ⟨b, h⟩ <;> exact ⟨_, h⟩
  obtain ⟨o2, ho2⟩ : ∃ o, p2 = .pointer o := by rcases h2.ptr with h | ⟨b, h⟩ <;> exact ⟨_, h⟩
  subst ho1
  subst ho2
  have HSN : Hid (l.length = sn) := hsn
  have HL : Hid (StsAt w P (.slice sa sn sc) l) := hl
  have HP : Hid (∀ j, P j → ¬ (K1 j ∨ K2 j)) := fun j hj h => h.elim (hP j hj).1 (hP j hj).2
  have HWF : Hid (∀ x ∈ l, (Lit.int .i64 x.n).wf = true) := hwf
  have HI0 : Hid (Md w w K1 K2 K1 K2 ln0 ln0 (.pointer o1) (.pointer o2) (.slice none 0 0) []) := ⟨Chg.refl _ _, h1, h2, (fun j hj => .inl hj), (fun j hj => .inl hj), hap, World.ownsRow_nil _ _ _ _, (fun b hb => by cases hb), fun b hb => by cases hb⟩
  clear hsn hl hP hwf h1 h2 hap
  go_enter Try.func22, Try.ntmps22
  go_wp2_with fail
  go_loopw [7, 8, 9, 10, 11, 12] (fun bv i _ _ _ _ wr => ∃ (q : Nat) (Ka Kb : Nat → Prop) (bk : List BkT), i = .int .i64 q ∧ q ≤ sn ∧ q ≤ 40 ∧ Hid (Md w wr K1 K2 Ka Kb (runL ln0 (l.take q)) (runL ln0 (l.take q)) (.pointer o1) (.pointer o2) bv bk ∧ bk.length = q + q)) (fun _ i _ _ _ _ _ => sn - (intOf i).toNat)
  case atStart => exact ⟨0, K1, K2, [], rfl, Nat.zero_le _, Nat.zero_le _, HI0.out, rfl⟩
  case round =>
    obtain ⟨q, Ka, Kb, bk, rfl, hq, hq1, HI⟩ := hrel
    by_cases hlt : q < sn
    · have hqi : (q : Int) < (sn : Int) := by omega
      by_cases h40 : q < 40
      · have hqj : (q : Int) < 40 := by omega
        obtain ⟨s, hs⟩ : ∃ s, l[q]? = some s := ⟨l[q]'(by rw [HSN.out]; exact hlt), List.getElem?_eq_getElem _⟩
        obtain ⟨sb, so, rfl, hsP, hsb, mv, hE⟩ := RowAt.get HL.out hs
        obtain ⟨L, hL⟩ : ∃ z, runL ln0 (l.take q) = z := ⟨_, rfl⟩
        have hgv : L.gv + 300 ≤ MaxG := by
          have h1 := runL_gv ln0 (l.take q)
          rw [hL, List.length_take, HSN.out] at h1
          have : ln0.gv = 0 := rfl
          unfold MaxG
          omega
        have hok : L.Ok := by rw [← hL]; exact runL_ok ok0
        have hok2 : (L.step s).Ok := hok.step s
        rw [hL] at HI
        obtain ⟨ma, mc, rfl, _⟩ := RowAt.form hE.ms
        obtain ⟨mn, hmn⟩ : ∃ z, s.ms.length = z := ⟨_, rfl⟩
        rw [hmn] at hE
        have HEE : Hid (stE w P sb (so + q * 6) s (.slice ma mn mc)) := hE
        have hwfs := HWF.out s (List.mem_of_getElem? hs)
        have HN : Hid (runL ln0 (l.take (q + 1)) = L.step s) := by show _ = _; rw [take_at hs, runL_snoc, hL]
        have HSW : Hid (∀ w', Chg w w' (fun j => K1 j ∨ K2 j) → w'.cell? ⟨sb, so + q * 6, none⟩ = some (.int .i64 s.kind) ∧ w'.cell? ⟨sb, so + q * 6 + 1, none⟩ = some (.int .i64 s.on) ∧ w'.cell? ⟨sb, so + q * 6 + 2, none⟩ = some (.slice ma mn mc) ∧ w'.cell? ⟨sb, so + q * 6 + 3, none⟩ = some (.int .i64 s.n) ∧ w'.cell? ⟨sb, so + q * 6 + 4, none⟩ = some (.int .i64 s.a) ∧ w'.cell? ⟨sb, so + q * 6 + 5, none⟩ = some (.int .i64 s.t)) := fun w' hc => by
          have h9 := HEE.out.keep (Kp.of_chg hc (fun j _ hj => HP.out j hj)) hsb hsP
          exact ⟨h9.kind, h9.on, h9.cu, h9.n, h9.a, h9.t⟩
        have HA1 : Hid (∀ w' K p, Chg w w' (fun j => K1 j ∨ K2 j) → AtL w' K L p → _) := fun w' K p hc ha => act_any w' K L p (.slice ma mn mc) s P ha hok hgv hwfs (MssAt.keep HEE.out.ms (Kp.of_chg hc (fun j _ hj => HP.out j hj)))
        obtain ⟨L2, hL2⟩ : ∃ z, L.step s = z := ⟨_, rfl⟩
        obtain ⟨A, hA⟩ : ∃ z, actN L s = z := ⟨_, rfl⟩
        have hAl := actN_len L s
        rw [hA] at hAl HA1
        rw [hL2] at HN HA1 hok2
        obtain ⟨NN, hNN⟩ : ∃ z, L2.fl.map (fun p => (p.n : Int)) = z := ⟨_, rfl⟩
        have HNU : Hid (∀ w' K p, AtL w' K L2 p → _) := fun w' K p ha => numbers_at w' K L2 p ha hok2
        rw [hNN] at HNU
        have hNl : NN.length ≤ 256 := by rw [← hNN, List.length_map]; exact hok2.len
        have HAL : Hid (A.length ≤ 300 ∧ NN.length ≤ 256) := ⟨hAl, hNl⟩
        obtain ⟨sk, son, sms, sn', sat, stt⟩ := s
        obtain ⟨s0, s1, s2, s3, s4, s5⟩ := HSW.out wr HI.out.1.chg
        obtain ⟨Wr, rfl⟩ : ∃ z, z = wr := ⟨_, rfl⟩
        simp only at s0 s1 s2 s3 s4 s5 HA1 HSW
        have HQ : Hid (q < sn ∧ q < 40) := ⟨hlt, h40⟩
        clear hs hsP hsb hE hL hgv hok hok2 hmn hwfs hL2 hA hAl hNN hNl HEE
        go_wp2_with fail
        refine Calls.mono (HA1.out Wr Ka (.pointer o1) HI.out.1.chg HI.out.1.at1) ?_
        rintro e w1 ⟨ua, Ka1, rfl, hua, hE1⟩
        have HM1 : Hid (Md w w1 K1 K2 Ka1 Kb L2 L (.pointer o1) (.pointer o2) u7 bk) := HI.out.1.line1 hE1
        have HUA1 : Hid (InsOwn w1 Wr.heap.size ua A) := hua
        have HS1 : Hid (Wr.heap.size ≤ w1.heap.size) := hE1.chg.size
        clear hua hE1 s0 s1 s2 s3 s4 s5
        obtain ⟨s0, s1, s2, s3, s4, s5⟩ := HSW.out w1 HM1.out.chg
        go_wp2_with fail
        refine Calls.mono (HA1.out w1 Kb (.pointer o2) HM1.out.chg HM1.out.at2) ?_
        rintro e w2 ⟨ub, Kb2, rfl, hub, hE2⟩
        have HM2 : Hid (Md w w2 K1 K2 Ka1 Kb2 L2 L2 (.pointer o1) (.pointer o2) u7 bk) := HM1.out.line2 hE2
        have HUA2 : Hid (InsOwn w2 Wr.heap.size ua A) := row_at HM1.out.at2 hE2 HUA1.out (by decide)
        have HUB2 : Hid (InsOwn w2 w1.heap.size ub A) := hub
        have HS2 : Hid (w1.heap.size ≤ w2.heap.size) := hE2.chg.size
        clear hub hE2 s0 s1 s2 s3 s4 s5
        go_wp2_with fail
        refine Calls.mono (HNU.out w2 Ka1 (.pointer o1) HM2.out.at1) ?_
        rintro e w3 ⟨un, Ka3, rfl, hun, _, hE3⟩
        have HM3 : Hid (Md w w3 K1 K2 Ka3 Kb2 L2 L2 (.pointer o1) (.pointer o2) u7 bk) := HM2.out.line1 hE3
        have HUA3 : Hid (InsOwn w3 Wr.heap.size ua A) := row_at HM2.out.at1 hE3 HUA2.out (by decide)
        have HUB3 : Hid (InsOwn w3 w1.heap.size ub A) := row_at HM2.out.at1 hE3 HUB2.out (by decide)
        have HUN3 : Hid (InsOwn w3 w2.heap.size un NN) := hun
        have HS3 : Hid (w2.heap.size ≤ w3.heap.size) := hE3.chg.size
        clear hun hE3
        go_wp2_with fail
        refine Calls.mono (HNU.out w3 Kb2 (.pointer o2) HM3.out.at2) ?_
        rintro e w4 ⟨um, Kb4, rfl, hum, _, hE4⟩
        have HM4 : Hid (Md w w4 K1 K2 Ka3 Kb4 L2 L2 (.pointer o1) (.pointer o2) u7 bk) := HM3.out.line2 hE4
        have HUA4 : Hid (InsOwn w4 Wr.heap.size ua A) := row_at HM3.out.at2 hE4 HUA3.out (by decide)
        have HUB4 : Hid (InsOwn w4 w1.heap.size ub A) := row_at HM3.out.at2 hE4 HUB3.out (by decide)
        have HUN4 : Hid (InsOwn w4 w2.heap.size un NN) := row_at HM3.out.at2 hE4 HUN3.out (by decide)
        have HUM4 : Hid (InsOwn w4 w3.heap.size um NN) := hum
        clear hum hE4
        go_wp2_with fail
        refine Calls.mono (ints_own A ua ub w4 HUA4.out HUB4.out (by have := HAL.out.1; omega)) ?_
        rintro e w5 ⟨rfl, hb5⟩
        have HM5 : Hid (Md w w5 K1 K2 Ka3 Kb4 L2 L2 (.pointer o1) (.pointer o2) u7 bk) := HM4.out.below hb5
        have HUA5 : Hid (InsOwn w5 Wr.heap.size ua A) := owns_below HUA4.out hb5
        have HUN5 : Hid (InsOwn w5 w2.heap.size un NN) := owns_below HUN4.out hb5
        have HUM5 : Hid (InsOwn w5 w3.heap.size um NN) := owns_below HUM4.out hb5
        clear hb5
        go_wp2_with fail
        refine Calls.mono (ints_own NN un um w5 HUN5.out HUM5.out (by have := HAL.out.2; omega)) ?_
        rintro e w6 ⟨rfl, hb6⟩
        have HM6 : Hid (Md w w6 K1 K2 Ka3 Kb4 L2 L2 (.pointer o1) (.pointer o2) u7 bk) := HM5.out.below hb6
        have HUA6 : Hid (InsOwn w6 Wr.heap.size ua A) := owns_below HUA5.out hb6
        have HUN6 : Hid (InsOwn w6 w2.heap.size un NN) := owns_below HUN5.out hb6
        clear hb6
        have hw1 : IntKind.i64.wrap (-200 * (q : Int)) = -200 * (q : Int) := by unfold IntKind.wrap; simp [IntKind.bits, IntKind.signed]; omega
        have hw2 : IntKind.i64.wrap (-200 * (q : Int) - 100) = -200 * (q : Int) - 100 := by unfold IntKind.wrap; simp [IntKind.bits, IntKind.signed]; omega
        have hw3 : IntKind.i64.wrap (-200 * (q : Int) - 200) = -200 * (q : Int) - 200 := by unfold IntKind.wrap; simp [IntKind.bits, IntKind.signed]; omega
        have HSW0 : Hid (w.heap.size ≤ Wr.heap.size) := HI.out.1.chg.size
        have HFR : Hid (∀ b ∈ bk, ∀ j, BkB b j → j < Wr.heap.size) := fun b hb j hj => (HI.out.1.each b hb).lt j hj
        have HBL : Hid (bk.length = q + q) := HI.out.2
        go_wp2_with fail
        refine Calls.mono (kept_any ua A (-200 * (q : Int) - 100) w6 (owns_mono HUA6.out (Nat.zero_le _)) (by omega) (by have := HAL.out.1; omega)) ?_
        rintro e w7 ⟨ga, rfl, hbe7, hga7, hc7⟩
        have HM7 : Hid (Md w w7 K1 K2 Ka3 Kb4 L2 L2 (.pointer o1) (.pointer o2) u7 bk) := HM6.out.turn hc7 (owns_mono HUA6.out HSW0.out) (fun b hb j hj e => by have h1 := HFR.out b hb j hj; have h2 := (row_block HUA6.out j e).1; omega)
        have HUN7 : Hid (InsOwn w7 w2.heap.size un NN) := row_chg HUN6.out hc7 (fun j hj e => by have h1 := (row_block HUN6.out j hj).1; have h2 := (row_block HUA2.out j e).2; omega)
        have HBE7 : Hid (BkE w7 ⟨ua, ga, A.length, -200 * (q : Int) - 100⟩) := hbe7
        have HGA : Hid (∀ j, BkB ⟨ua, ga, A.length, -200 * (q : Int) - 100⟩ j → j < w2.heap.size ∨ w6.heap.size ≤ j) := fun j hj => by
          have hu : ∀ j, ua.ownBlock = some j → j < w2.heap.size := fun j e => (row_block HUA2.out j e).2
          rcases hj with e | e
          · exact .inl (hu j e)
          · rcases hga7 j e with e | e
            · exact .inl (hu j e)
            · exact .inr e
        have HS67 : Hid (w6.heap.size ≤ w7.heap.size ∧ ∀ j, un.ownBlock = some j → j < w6.heap.size) := ⟨hc7.size, fun j e => (row_block HUN6.out j e).2⟩
        have HROW7 : Hid (w7.ownsRow w.heap.size 81 3 u7 (q + q) (bk.flatMap BkT.cells)) := by
          have h9 : w7.ownsRow w.heap.size 81 3 u7 bk.length (bk.flatMap BkT.cells) := HM7.out.row
          rw [HBL.out] at h9
          exact h9
        have HSZ7 : Hid (w.heap.size ≤ w7.heap.size) := HM7.out.chg.size
        obtain ⟨aa, ac, hua⟩ := ins_len HUA6.out
        have hgsl : ∃ a c, ga = .slice a (A.length + 64) c := by obtain ⟨a, c, h, _⟩ := row_form HBE7.out.g; exact ⟨a, c, h⟩
        obtain ⟨bb, bc, hgb⟩ := hgsl
        obtain ⟨XS, hXS⟩ : ∃ z, bk.flatMap BkT.cells = z := ⟨_, rfl⟩
        rw [hXS] at HROW7
        have HXS : Hid (bk.flatMap BkT.cells = XS) := hXS
        have HUV7 : Hid (ua.oneCell' = true ∧ ga.oneCell' = true) := by rw [hua, hgb]; exact ⟨rfl, rfl⟩
        clear hc7 hbe7 hga7 hXS hua hgb
        go_wp2_with (first
          | (at_builtin; refine wpList_row Try.underlying78 Try.infoKept rfl (by decide) rfl _ _ rfl w.heap.size u7 (q + q) XS rfl (World.ownsRow.alloc HROW7.out _) w7.heap.size 1 [ua, ga, .int .i64 (-200 * (q : Int) - 100)] rfl (heap_alloc_new _ _) rfl (fun y hy => by
               simp only [List.mem_cons, List.not_mem_nil, or_false] at hy
               rcases hy with rfl | rfl | rfl
               · exact HUV7.out.1
               · exact HUV7.out.2
               · rfl) (by unfold maxLen; omega) (by omega) (by rw [World.size_alloc]; have := HSZ7.out; omega) ?_)
          | fail)
        intro bv8 w8 hown8 hg8 ho8
        have hal8 : Below w7.heap.size w7 (w7.alloc (.cells #[ua, ga, .int .i64 (-200 * (q : Int) - 100)] 81)) := (Below.refl _ _).alloc (Nat.le_refl _) _
        have HM8 : Hid (Md w w8 K1 K2 Ka3 Kb4 L2 L2 (.pointer o1) (.pointer o2) bv8 (bk ++ [⟨ua, ga, A.length, -200 * (q : Int) - 100⟩])) := (HM7.out.below hal8).push (x := ⟨ua, ga, A.length, -200 * (q : Int) - 100⟩) (by rw [HBL.out, HXS.out]; exact hown8) hg8 (HBE7.out.keep (Kp.of_below hal8 _)) ⟨by show -1000000 ≤ -200 * (q : Int) - 100; omega, by show -200 * (q : Int) - 100 ≤ 0; omega, by show A.length ≤ 1000; have := HAL.out.1; omega⟩
        have HUN8 : Hid (InsOwn w8 w2.heap.size un NN) := row_other (owns_below HUN7.out hal8) (Chg.grown hg8) (Kind.own (owns_below HROW7.out hal8)) (by decide)
        have HS8 : Hid (w6.heap.size ≤ w8.heap.size) := by have h1 := (Chg.grown hg8).size; have h2 := HS67.out.1; have h3 := hal8.size; show _ ≤ _; omega
        have HBL8 : Hid ((bk ++ [(⟨ua, ga, A.length, -200 * (q : Int) - 100⟩ : BkT)]).length = q + q + 1) := by show _ = _; rw [List.length_append, HBL.out]; rfl
        have hsl8 : ∃ a c, bv8 = .slice a (q + q + 1) c := by obtain ⟨a, c, h, _⟩ := row_form hown8; exact ⟨a, c, h⟩
        have HF8 : Hid (∀ b ∈ bk ++ [(⟨ua, ga, A.length, -200 * (q : Int) - 100⟩ : BkT)], ∀ j, BkB b j → un.ownBlock ≠ some j) := fun b hb j hj e => by
          have h1 := (row_block HUN8.out j e).1
          have h2 := HS67.out.2 j e
          rcases List.mem_append.1 hb with hb | hb
          · have := HFR.out b hb j hj
            have := HS1.out
            have := HS2.out
            omega
          · obtain rfl : b = (⟨ua, ga, A.length, -200 * (q : Int) - 100⟩ : BkT) := by simpa using hb
            rcases HGA.out j hj with h3 | h3 <;> omega
        have HSN8 : Hid (w.heap.size ≤ w2.heap.size) := HM2.out.chg.size
        obtain ⟨bk8, hbk8⟩ : ∃ z, bk ++ [(⟨ua, ga, A.length, -200 * (q : Int) - 100⟩ : BkT)] = z := ⟨_, rfl⟩
        rw [hbk8] at HM8 HBL8 HF8
        obtain ⟨ba8, bc8, rfl⟩ := hsl8
        clear hown8 hg8 ho8 hal8 hbk8
        go_wp2_with fail
        refine Calls.mono (kept_any un NN (-200 * (q : Int) - 200) w8 (owns_mono HUN8.out (Nat.zero_le _)) (by omega) (by have := HAL.out.2; omega)) ?_
        rintro e w9 ⟨gn, rfl, hbe9, hgn9, hc9⟩
        have HM9 : Hid (Md w w9 K1 K2 Ka3 Kb4 L2 L2 (.pointer o1) (.pointer o2) (.slice ba8 (q + q + 1) bc8) bk8) := HM8.out.turn hc9 (owns_mono HUN8.out HSN8.out) HF8.out
        have HBE9 : Hid (BkE w9 ⟨un, gn, NN.length, -200 * (q : Int) - 200⟩) := hbe9
        have HROW9 : Hid (w9.ownsRow w.heap.size 81 3 (.slice ba8 (q + q + 1) bc8) (q + q + 1) (bk8.flatMap BkT.cells)) := by
          have h9 : w9.ownsRow w.heap.size 81 3 (.slice ba8 (q + q + 1) bc8) bk8.length (bk8.flatMap BkT.cells) := HM9.out.row
          rw [HBL8.out] at h9
          exact h9
        have HSZ9 : Hid (w.heap.size ≤ w9.heap.size) := HM9.out.chg.size
        obtain ⟨ya, yc, hyu⟩ := ins_len HUN8.out
        have hgsl : ∃ a c, gn = .slice a (NN.length + 64) c := by obtain ⟨a, c, h, _⟩ := row_form HBE9.out.g; exact ⟨a, c, h⟩
        obtain ⟨yb, yd, hyg⟩ := hgsl
        obtain ⟨X9, hX9⟩ : ∃ z, bk8.flatMap BkT.cells = z := ⟨_, rfl⟩
        rw [hX9] at HROW9
        have HX9 : Hid (bk8.flatMap BkT.cells = X9) := hX9
        have HUV9 : Hid (un.oneCell' = true ∧ gn.oneCell' = true) := by rw [hyu, hyg]; exact ⟨rfl, rfl⟩
        clear hc9 hbe9 hgn9 hX9 hyu hyg
        go_wp2_with (first
          | (at_builtin; refine wpList_row Try.underlying78 Try.infoKept rfl (by decide) rfl _ _ rfl w.heap.size (.slice ba8 (q + q + 1) bc8) (q + q + 1) X9 rfl (World.ownsRow.alloc HROW9.out _) w9.heap.size 1 [un, gn, .int .i64 (-200 * (q : Int) - 200)] rfl (heap_alloc_new _ _) rfl (fun y hy => by
               simp only [List.mem_cons, List.not_mem_nil, or_false] at hy
               rcases hy with rfl | rfl | rfl
               · exact HUV9.out.1
               · exact HUV9.out.2
               · rfl) (by unfold maxLen; omega) (by omega) (by rw [World.size_alloc]; have := HSZ9.out; omega) ?_)
          | fail)
        intro bv10 w10 hown10 hg10 ho10
        have hal10 : Below w9.heap.size w9 (w9.alloc (.cells #[un, gn, .int .i64 (-200 * (q : Int) - 200)] 81)) := (Below.refl _ _).alloc (Nat.le_refl _) _
        have HM10 : Hid (Md w w10 K1 K2 Ka3 Kb4 L2 L2 (.pointer o1) (.pointer o2) bv10 (bk8 ++ [⟨un, gn, NN.length, -200 * (q : Int) - 200⟩])) := (HM9.out.below hal10).push (x := ⟨un, gn, NN.length, -200 * (q : Int) - 200⟩) (by rw [HBL8.out, HX9.out]; exact hown10) hg10 (HBE9.out.keep (Kp.of_below hal10 _)) ⟨by show -1000000 ≤ -200 * (q : Int) - 200; omega, by show -200 * (q : Int) - 200 ≤ 0; omega, by show NN.length ≤ 1000; have := HAL.out.2; omega⟩
        have HBL10 : Hid ((bk8 ++ [(⟨un, gn, NN.length, -200 * (q : Int) - 200⟩ : BkT)]).length = (q + 1) + (q + 1)) := by show _ = _; rw [List.length_append, HBL8.out]; simp; omega
        obtain ⟨bk10, hbk10⟩ : ∃ z, bk8 ++ [(⟨un, gn, NN.length, -200 * (q : Int) - 200⟩ : BkT)] = z := ⟨_, rfl⟩
        rw [hbk10] at HM10 HBL10
        have hsl10 : ∃ a c, bv10 = .slice a (q + q + 1 + 1) c := by obtain ⟨a, c, h, _⟩ := row_form hown10; exact ⟨a, c, h⟩
        obtain ⟨ba10, bc10, rfl⟩ := hsl10
        clear hown10 hg10 ho10 hal10 hbk10
        go_wp2_with fail
        refine Calls.mono (still_any (.slice ba10 (q + q + 1 + 1) bc10) w.heap.size bk10 w10 HM10.out.row HM10.out.each HM10.out.small (by have := HBL10.out; omega)) ?_
        rintro e w11 ⟨rfl, hb11⟩
        have HM11 : Hid (Md w w11 K1 K2 Ka3 Kb4 (runL ln0 (l.take (q + 1))) (runL ln0 (l.take (q + 1))) (.pointer o1) (.pointer o2) (.slice ba10 (q + q + 1 + 1) bc10) bk10) := by rw [HN.out]; exact HM10.out.below hb11
        clear hb11
        go_wp2_with fail
        go_roundw
        case rel => exact ⟨q + 1, Ka3, Kb4, bk10, by go_num, HQ.out.1, HQ.out.2, HM11.out, HBL10.out⟩
        case measure => have := HQ.out.1; simp [intOf]; omega
      · have hge : ¬ (q : Int) < 40 := by omega
        go_wp2_with fail
        go_ret
        exact ⟨rfl, HI.out.1.chg⟩
    · have hge : ¬ (q : Int) < (sn : Int) := by omega
      go_wp2_with fail
      go_ret
      exact ⟨rfl, HI.out.1.chg⟩
end Go.Proofs.Ytfcobhgjkibdgaa
