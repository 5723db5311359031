/-
  What the document says of bytes: Says.
-/
import Derived.Test.YtdjibjmhjofedacWHead
import Derived.Test.YtdjibjmhjofedacWStreamP
import Derived.Test.YtdjibjmhjofedacWDecide
namespace Go.Proofs.Ytdjibjmhjofedac
open Go.RowKit
set_option linter.unusedVariables false

/-- Between the rounds of Says. -/
structure SayI (w : World) (xs : List Int) (k j : Nat) (l : Value) (gs : List (Value × List Int)) (W : World) : Prop where
  row : W.ownsRow w.heap.size 26 1 l gs.length (gs.map (·.1))
  each : ∀ p ∈ gs, W.ownsRow w.heap.size 5 1 p.1 p.2.length (bv p.2)
  dec : dec xs = (gs.map (·.2) ++ (dec (xs.drop k)).1, j + (dec (xs.drop k)).2.1, k + (dec (xs.drop k)).2.2)
  bel : Below w.heap.size w W
  le : k ≤ xs.length
  jk : j ≤ k
  gk : gs.length ≤ k

theorem owns_slice' {w : World} {base n : Nat} {e : TypeId} {v : Value} {vals : List Value} (h : w.ownsRow base e 1 v n vals) : ∃ a n c, v = .slice a n c := by
  rcases h.2 with ⟨rfl, _⟩ | ⟨g, cap, cur, rfl, _⟩
  · exact ⟨_, _, _, rfl⟩
  · exact ⟨_, _, _, rfl⟩

theorem SayI.start (w : World) (xs : List Int) : SayI w xs 0 0 (.slice none 0 0) [] w :=
  ⟨World.ownsRow_nil _ _ _ _, (fun p hp => nomatch hp), by simp, Below.refl _ _, Nat.zero_le _, Nat.le_refl _, Nat.le_refl _⟩
theorem SayI.below {w W W' : World} {xs : List Int} {k j : Nat} {l : Value} {gs : List (Value × List Int)} (h : SayI w xs k j l gs W) (hb : Below W.heap.size W W') : SayI w xs k j l gs W' :=
  ⟨owns_fr h.row (Fr.of_below hb (fun _ => False)) (fun _ _ h => h), fun p hp => owns_fr (h.each p hp) (Fr.of_below hb (fun _ => False)) (fun _ _ h => h), h.dec, trans2 h.bel hb, h.le, h.jk, h.gk⟩
theorem SayI.skip {w W : World} {xs : List Int} {k j : Nat} {l : Value} {gs : List (Value × List Int)} (h : SayI w xs k j l gs W) (h22 : fcode (xs.drop k) = 22) : SayI w xs (k + 1) (j + 1) l gs W := by
  have hk : k < xs.length := by
    rcases Nat.lt_or_ge k xs.length with g | g
    · exact g
    · rw [List.drop_eq_nil_of_le g] at h22; cases h22
  refine ⟨h.row, h.each, ?_, h.bel, hk, by have := h.jk; omega, by have := h.gk; omega⟩
  rw [h.dec, dec_next_skip h22]
  refine Prod.ext rfl (Prod.ext ?_ ?_)
  · show _ + (_ + 1) = _ + 1 + _; omega
  · show _ + (1 + _) = _ + 1 + _; omega
theorem SayI.stop {w W : World} {xs : List Int} {k j : Nat} {l : Value} {gs : List (Value × List Int)} (h : SayI w xs k j l gs W) (h21 : fcode (xs.drop k) = 21) : gs.map (·.2) = (Go.Proofs.Ytdjibjmhjofedac.dec xs).1 ∧ j = (Go.Proofs.Ytdjibjmhjofedac.dec xs).2.1 := by
  rw [h.dec, dec_stop h21]
  simp
theorem SayI.found {w W W1 W2 : World} {xs ys : List Int} {k j n : Nat} {l l' v : Value} {gs : List (Value × List Int)} (h : SayI w xs k j l gs W) (h0 : fcode (xs.drop k) = 0) (hn : n = w4 (xs.drop k) 2) (hys : ys = ((xs.drop k).drop 10).take n)
    (hb : Below W.heap.size W W1) (hv : W1.ownsRow w.heap.size 5 1 v ys.length (bv ys)) (hl : W2.ownsRow w.heap.size 26 1 l' (gs.length + 1) (gs.map (·.1) ++ [v])) (hg : W1.grownBy W2 l.ownBlock) :
    SayI w xs (k + (14 + n)) j l' (gs ++ [(v, ys)]) W2 := by
  have h1 := h.below hb
  have hok := fcode_ok h0
  have hll : 14 + n ≤ xs.length - k := by rw [hn]; have := hok.2.1; rw [List.length_drop] at this; exact this
  have hf := Fr.of_grown hg
  have ho : ∀ {u : Value} {m base : Nat} {vals : List Value}, W1.ownsRow base 5 1 u m vals → ∀ b, u.ownBlock = some b → ¬ l.ownBlock = some b := fun hu b hb e => by
    obtain ⟨_, _, cur, hc⟩ := owns_kind hu b hb
    obtain ⟨_, _, cur', hc'⟩ := owns_kind h1.row b e
    rw [hc] at hc'; cases hc'
  refine ⟨by rw [List.length_append, List.map_append]; exact hl, fun p hp => ?_, ?_, h1.bel.trans (hf.below _ h1.bel.size (fun b e => (owns_kind h1.row b e).2.1)), by omega, by have := h.jk; omega, by rw [List.length_append]; have := h.gk; simp; omega⟩
  · rcases List.mem_append.1 hp with hp | hp
    · exact owns_fr (h1.each p hp) hf (ho (h1.each p hp))
    · rw [List.mem_singleton] at hp
      subst hp
      exact owns_fr hv hf (ho hv)
  · rw [h.dec, dec_next_body h0 hn, hys]
    refine Prod.ext ?_ (Prod.ext rfl ?_)
    · simp
    · show k + (_ + _) = k + _ + _; omega

set_option maxHeartbeats 12800000 in
set_option maxRecDepth 100000 in
theorem says_some (b o c : Nat) (xs : List Int) (w : World) (hx : Bys w (some ⟨b, o, none⟩) xs) (hlt : b < w.heap.size) (hb : Byt xs) (hc : xs.length ≤ c) (hcm : c ≤ maxLen) (hm : xs.length ≤ 900000) :
    Calls Try.prog 22 #[.slice (some ⟨b, o, none⟩) xs.length c] w fun e w' => ∃ (l : Value) (gs : List (Value × List Int)), e = .returned (.tuple #[l, .int .i64 ((dec xs).2.1 : Nat)]) ∧ gs.map (·.2) = (dec xs).1 ∧ w'.ownsRow w.heap.size 26 1 l gs.length (gs.map (·.1)) ∧ (∀ p ∈ gs, w'.ownsRow w.heap.size 5 1 p.1 p.2.length (bv p.2)) ∧ Below w.heap.size w w' := by
  obtain ⟨i0, hi, hz0, hz1, hz2⟩ := info_parts info_body
  have HI0 : Hid (SayI w xs 0 0 (.slice none 0 0) [] w) := SayI.start w xs
  have HX : Hid (Bys w (some ⟨b, o, none⟩) xs) := hx
  have HBX : Hid (Byt xs) := hb
  have HLT : Hid (b < w.heap.size) := hlt
  have hcm' := hcm
  unfold maxLen at hcm
  clear hx hb hlt
  go_enter Try.func22, Try.ntmps22
  go_wp2
  go_loopw [4, 5, 6] (fun l s i wr => ∃ (k j : Nat) (gs : List (Value × List Int)), i = .int .i64 k ∧ s = .int .i64 j ∧ k ≤ xs.length ∧ j ≤ k ∧ Hid (SayI w xs k j l gs wr)) (fun _ _ i _ => xs.length - (intOf i).toNat)
  case atStart => exact ⟨0, 0, [], rfl, rfl, Nat.zero_le _, Nat.le_refl _, HI0⟩
  case round =>
    obtain ⟨k, j, gs, rfl, rfl, hkk, hjk, HI⟩ := hrel
    by_cases hlt : k < xs.length
    · have hkI : (k : Int) < (xs.length : Int) := by omega
      have hkc : (k : Int) < (c : Int) := by omega
      have hkc2 : ¬ c = k := by omega
      obtain ⟨ys, hys⟩ : ∃ ys, ys = xs.drop k := ⟨_, rfl⟩
      have hyl : ys.length = xs.length - k := by rw [hys, List.length_drop]
      have hyby : Byt ys := fun z hz => HBX.out z (by rw [hys] at hz; exact List.mem_of_mem_drop hz)
      have hybs : Bys wr (some ⟨b, o + k, none⟩) ys := by rw [hys]; exact (HX.out.drop k HLT.out).below HI.out.bel
      have HYS : Hid (ys = xs.drop k) := hys
      have HYY : Hid (Byt ys) := hyby
      have HYB : Hid (Bys wr (some ⟨b, o + k, none⟩) ys) := hybs
      have hcells := cells_of hybs
      have HSK : Hid (fcode ys = 22 → SayI w xs (k + 1) (j + 1) u4 gs wr) := fun h => HI.out.skip (by rw [← hys]; exact h)
      have HST : Hid (fcode ys = 21 → gs.map (·.2) = (dec xs).1 ∧ j = (dec xs).2.1) := fun h => HI.out.stop (by rw [← hys]; exact h)
      clear hys hyby hybs
      obtain ⟨y0, yr, rfl⟩ : ∃ y0 yr, ys = y0 :: yr := by
        cases ys with
        | nil => simp at hyl; omega
        | cons y r => exact ⟨y, r, rfl⟩
      have hc0 : wr.cell? ⟨b, o + k, none⟩ = some (.int .u8 y0) := by have := hcells 0 y0 rfl; rwa [Nat.add_zero] at this
      have hyI : ((yr.length : Int) + 1) = (xs.length : Int) - (k : Int) := by simp at hyl; omega
      by_cases e0 : y0 = 197
      · by_cases hone : yr = []
        · subst hone
          have h21 : fcode [y0] = 21 := by
            unfold fcode
            rw [if_neg (by rw [show mkB [y0] = true from decide_eq_true e0]; decide), if_pos (by simp)]
          obtain ⟨hd1, hd2⟩ := HST.out h21
          have HD1 : Hid _ := hd1
          have HD2 : Hid (j = (dec xs).2.1) := hd2
          have hlen1 : ((xs.length - k : Nat) : Int) = 1 := by simp at hyl; omega
          have hlen2 : xs.length - k = 1 := by simp at hyl; omega
          clear hd1 hd2 HSK HST hcells
          go_wp2_with fail
          go_ret2
          exact ⟨_, gs, by rw [← HD2.out]; rfl, HD1.out, HI.out.row, HI.out.each, HI.out.bel⟩
        · obtain ⟨y1, yr2, rfl⟩ : ∃ y1 r, yr = y1 :: r := by
            cases yr with
            | nil => exact absurd rfl hone
            | cons y r => exact ⟨y, r, rfl⟩
          have hc1 : wr.cell? ⟨b, o + k + 1, none⟩ = some (.int .u8 y1) := hcells 1 y1 rfl
          have hgt1 : (1 : Int) < ((xs.length - k : Nat) : Int) := by simp at hyl; omega
          have hgt2 : 1 < xs.length - k := by simp at hyl; omega
          by_cases e1 : y1 = 58
          · have hmk : mkB (y0 :: y1 :: yr2) = true := decide_eq_true ⟨e0, e1⟩
            obtain ⟨zs, hzs⟩ : ∃ zs, zs = y0 :: y1 :: yr2 := ⟨_, rfl⟩
            rw [← hzs] at HSK HST HYS HYY HYB hyl hmk
            subst e0
            subst e1
            clear hcells hzs hyI hone
            obtain ⟨N, hN⟩ : ∃ N, xs.length - k = N := ⟨_, rfl⟩
            rw [hN] at hyl hgt1 hgt2
            have hNb : N ≤ 900000 := by omega
            by_cases h10 : N < 10
            · have h21 : fcode zs = 21 := by
                unfold fcode
                rw [if_neg (by rw [hmk]; decide), if_pos (by omega)]
              obtain ⟨hd1, hd2⟩ := HST.out h21
              have HD1 : Hid _ := hd1
              have HD2 : Hid (j = (dec xs).2.1) := hd2
              clear hd1 hd2 HSK HST h21
              go_wp2_with fail
              go_ret2
              exact ⟨_, gs, by rw [← HD2.out]; rfl, HD1.out, HI.out.row, HI.out.each, HI.out.bel⟩
            · have HH : Hid _ := headed_any b (o + k) (c - k) zs wr (by omega) (by omega) (by omega) HYB.out HYY.out (by omega)
              rw [hyl] at HH
              have h10I : (10 : Int) ≤ (N : Int) := by omega
              have hNc : N ≤ c - k := by omega
              by_cases hr : hdB zs = true
              · rw [hr] at HH
                have hr' : mkB zs = true ∧ crc (zs.take 6) = w4 zs 6 ∧ w4 zs 2 ≤ 262144 := of_decide_eq_true hr
                have hM := hr'.2.2
                by_cases h4 : N < 14 + w4 zs 2
                · have h21 : fcode zs = 21 := by
                    unfold fcode
                    rw [if_neg (by rw [hmk]; decide), if_neg (by omega), if_neg (by rw [hr'.2.1]; simp), if_neg (by omega), if_pos (by omega)]
                  obtain ⟨hd1, hd2⟩ := HST.out h21
                  have HD1 : Hid _ := hd1
                  have HD2 : Hid (j = (dec xs).2.1) := hd2
                  generalize w4 zs 2 = M at HH hM h4
                  clear hd1 hd2 HSK HST h21 hr hr'
                  go_wp2_with (first | (go_at_call 36; refine Calls.mono HH.out ?_; rintro e w1 ⟨rfl, hb1⟩; have HI1 : Hid _ := HI.out.below hb1; clear hb1) | fail)
                  go_ret2
                  exact ⟨_, gs, by rw [← HD2.out]; rfl, HD1.out, HI1.out.row, HI1.out.each, HI1.out.bel⟩
                · by_cases h5 : crc (zs.take (10 + w4 zs 2)) ≠ w4 zs (10 + w4 zs 2)
                  · have h22 : fcode zs = 22 := by
                      unfold fcode
                      rw [if_neg (by rw [hmk]; decide), if_neg (by omega), if_neg (by rw [hr'.2.1]; simp), if_neg (by omega), if_neg (by omega), if_pos h5]
                    have HS22 : Hid _ := HSK.out h22
                    obtain ⟨E, hE⟩ : ∃ E, 10 + w4 zs 2 = E := ⟨_, rfl⟩
                    have HW : Hid _ := @from4_q b (o + k) (c - k) zs E (by omega) HYY.out (by omega)
                    have HS : Hid _ := @refSum_q b (o + k) (c - k) zs E (by omega) HYY.out (by omega)
                    rw [hyl] at HW
                    rw [hE] at h5
                    have hd : ((w4 zs E : Int) != (crc (zs.take E) : Int)) = true := by simp; omega
                    generalize w4 zs E = C2 at HW hd h5
                    generalize crc (zs.take E) = C1 at HS hd h5
                    generalize w4 zs 2 = M at HH hM h4 hE
                    have hEi : (10 : Int) + (M : Int) = (E : Int) := by omega
                    have hE1 : (E : Int) ≤ ((c - k : Nat) : Int) := by omega
                    clear HSK HST h22 hr hr' h5 hE
                    go_wp2_with (first | (go_at_call 36; refine Calls.mono HH.out ?_; rintro e w1 ⟨rfl, hb1⟩; have HS1 : Hid _ := HS22.out.below hb1; have HX1 : Hid (Bys w1 (some ⟨b, o + k, none⟩) zs) := Bys.below HYB.out hb1; clear hb1) | fail)
                    go_quiet (first
                      | (go_at_call 37; (refine (HW.out (Bys.drewN HX1.out _)).mono (fun _ _ h => ⟨h.1, (by obtain ⟨k, hk⟩ := h.2; exact ⟨_, by rw [hk, World.drewN_drewN]⟩)⟩)))
                      | (go_at_call 38; (refine (HS.out (Bys.drewN HX1.out _)).mono (fun _ _ h => ⟨h.1, (by obtain ⟨k, hk⟩ := h.2; exact ⟨_, by rw [hk, World.drewN_drewN]⟩)⟩))))
                    go_wp2
                    go_roundw
                    case rel => exact ⟨k + 1, j + 1, gs, by go_num, by go_num, by omega, by omega, HS1.out.below (below_drewN (Below.refl _ _) _)⟩
                    case measure => simp [intOf]; omega
                  · have h5' : crc (zs.take (10 + w4 zs 2)) = w4 zs (10 + w4 zs 2) := by simpa using h5
                    have h0 : fcode zs = 0 := by
                      unfold fcode
                      rw [if_neg (by rw [hmk]; decide), if_neg (by omega), if_neg (by rw [hr'.2.1]; simp), if_neg (by omega), if_neg (by omega), if_neg h5]
                    obtain ⟨bs, hbs⟩ : ∃ bs, bs = (zs.drop 10).take (w4 zs 2) := ⟨_, rfl⟩
                    have hlen : bs.length = w4 zs 2 := by rw [hbs, List.length_take, List.length_drop]; omega
                    have hcat : Bys wr (some ⟨b, o + k + 10, none⟩) bs := by rw [hbs]; exact (HYB.out.drop 10 (Nat.lt_of_lt_of_le HLT.out HI.out.bel.size)).take _
                    have HC : Hid (Bys wr (some ⟨b, o + k + 10, none⟩) bs) := hcat
                    have HFO : Hid (∀ {W1 W2 : World} {l' v : Value}, Below wr.heap.size wr W1 → W1.ownsRow w.heap.size 5 1 v bs.length (bv bs) → W2.ownsRow w.heap.size 26 1 l' (gs.length + 1) (gs.map (·.1) ++ [v]) → W1.grownBy W2 u4.ownBlock → SayI w xs (k + (14 + w4 zs 2)) j l' (gs ++ [(v, bs)]) W2) := fun h1 h2 h3 h4 => HI.out.found (by rw [← HYS.out]; exact h0) (by rw [← HYS.out]) (by rw [← HYS.out]; exact hbs) h1 h2 h3 h4
                    obtain ⟨E, hE⟩ : ∃ E, 10 + w4 zs 2 = E := ⟨_, rfl⟩
                    have HW : Hid _ := @from4_q b (o + k) (c - k) zs E (by omega) HYY.out (by omega)
                    have HS : Hid _ := @refSum_q b (o + k) (c - k) zs E (by omega) HYY.out (by omega)
                    rw [hyl] at HW
                    rw [hE] at h5'
                    rw [h5'] at HS
                    generalize w4 zs E = C2 at HW HS h5'
                    generalize w4 zs 2 = M at HH hM h4 hE hlen HFO
                    have hEi : (10 : Int) + (M : Int) = (E : Int) := by omega
                    have hE1 : (E : Int) ≤ ((c - k : Nat) : Int) := by omega
                    have hE2 : (10 : Int) ≤ (E : Int) := by omega
                    have hE3 : ¬ c - k - 10 = 0 := by omega
                    have hE4 : ¬ c - k = 10 := by omega
                    have HE : Hid (E - 10 = bs.length) := by show E - 10 = bs.length; omega
                    have HM : Hid (M = bs.length) := by show M = bs.length; omega
                    have hkM : k + 14 + M ≤ xs.length := by omega
                    have hgk := HI.out.gk
                    have hbl : bs.length ≤ 900000 := by omega
                    clear HSK HST h0 hr hr' h5 h5' hE hcat hlen hbs hyl
                    go_wp2_with (first | (go_at_call 36; refine Calls.mono HH.out ?_; rintro e w1 ⟨rfl, hb1⟩; have HB1 : Hid (Below wr.heap.size wr w1) := hb1; have HX1 : Hid (Bys w1 (some ⟨b, o + k, none⟩) zs) := Bys.below HYB.out hb1; clear hb1) | fail)
                    go_quiet (first
                      | (go_at_call 37; (refine (HW.out (Bys.drewN HX1.out _)).mono (fun _ _ h => ⟨h.1, (by obtain ⟨k, hk⟩ := h.2; exact ⟨_, by rw [hk, World.drewN_drewN]⟩)⟩)))
                      | (go_at_call 38; (refine (HS.out (Bys.drewN HX1.out _)).mono (fun _ _ h => ⟨h.1, (by obtain ⟨k, hk⟩ := h.2; exact ⟨_, by rw [hk, World.drewN_drewN]⟩)⟩))))
                    have HB2 : Hid (Below wr.heap.size wr (w1.drewN nq)) := below_drewN HB1.out nq
                    have HC1 : Hid _ := Bys.below HC.out HB2.out
                    have HI2 : Hid _ := HI.out.below HB2.out
                    generalize w1.drewN nq = w2 at HC1 HB2 HI2 ⊢
                    have hs2 : w.heap.size ≤ w2.heap.size := HI2.out.bel.size
                    go_wp2_with (first | (at_builtin; refine wpList_app rfl _ _ rfl w.heap.size (.slice none 0 0) [] rfl (World.ownsRow_nil _ _ _ _) (some ⟨b, o + k + 10, none⟩) (E - 10) (c - k - 10) bs rfl HE.out HC1.out (fun h => by cases h) (by simp; omega) hs2 ?_) | fail)
                    intro v3 w3 ho3 hg3
                    obtain ⟨a3, n3, c3, rfl⟩ := owns_slice' ho3
                    have HB3 : Hid (Below wr.heap.size wr w3) := trans2 HB2.out ((Below.refl _ _).grown hg3 (Nat.le_refl _) (fun k hk => by cases hk))
                    have HO3 : Hid (w3.ownsRow w.heap.size 5 1 (.slice a3 n3 c3) bs.length (bv bs)) := ho3
                    have HI3 : Hid _ := HI.out.below HB3.out
                    obtain ⟨GV, hGV⟩ : ∃ GV : List Value, GV = gs.map (fun p => p.1) := ⟨_, rfl⟩
                    have HR3 : Hid ((w3.alloc (.cells #[.slice a3 n3 c3] 26)).ownsRow w.heap.size 26 1 u4 gs.length GV) := by rw [hGV]; exact HI3.out.row.alloc _
                    have hs3 : w.heap.size ≤ (w3.alloc (.cells #[.slice a3 n3 c3] 26)).heap.size := by rw [World.size_alloc]; have := HI3.out.bel.size; omega
                    have HGV : Hid (GV = gs.map (fun p => p.1)) := hGV
                    clear ho3 hg3 hGV HI2 HC1 HB2
                    go_wp2_with (first | (at_builtin; refine wpList_append_own _ rfl _ _ 22 rfl w.heap.size 26 i0 (.slice none 0 0) 1 24 Try.underlying22 hi hz0 hz1 hz2 rfl (by decide) u4 gs.length GV rfl HR3.out ⟨w3.heap.size, 0, none⟩ 1 1 [.slice a3 n3 c3] rfl rfl (cell_one_new _ _ _) (fun x hx => by simp at hx; subst hx; rfl) (by unfold maxLen; omega) (by omega) hs3 ?_) | fail)
                    intro v4 w4 ho4 hg4 _
                    obtain ⟨g4, cap4, rfl⟩ := ownsRow_succ ho4
                    have HN4 : Hid (SayI w xs (k + (14 + M)) j (.slice (some ⟨g4, 0, none⟩) (gs.length + 1) cap4) (gs ++ [(.slice a3 n3 c3, bs)]) w4) := HFO.out (trans2 HB3.out ((Below.refl _ w3).alloc (Nat.le_refl _) _)) (owns_fr HO3.out (Fr.of_below ((Below.refl _ w3).alloc (Nat.le_refl _) _) (fun _ => False)) (fun _ _ h => h)) (by rw [← HGV.out]; exact ho4) hg4
                    clear ho4 hg4
                    go_wp2
                    go_roundw
                    case rel => exact ⟨k + (14 + M), j, gs ++ [(.slice a3 n3 c3, bs)], by go_num, rfl, by omega, by omega, HN4⟩
                    case measure => simp [intOf]; omega
              · have hr2 : hdB zs = false := by simpa using hr
                rw [hr2] at HH
                have h22 : fcode zs = 22 := by
                  unfold fcode
                  rw [if_neg (by rw [hmk]; decide), if_neg (by omega)]
                  by_cases hcrc : crc (zs.take 6) ≠ w4 zs 6
                  · rw [if_pos hcrc]
                  · rw [if_neg hcrc]
                    by_cases hbig : 262144 < w4 zs 2
                    · rw [if_pos hbig]
                    · exact absurd (show hdB zs = true from decide_eq_true ⟨hmk, by simpa using hcrc, by omega⟩) hr
                have HS22 : Hid _ := HSK.out h22
                generalize w4 zs 2 = M at HH
                clear HSK HST h22 hr hr2
                go_wp2_with (first | (go_at_call 36; refine Calls.mono HH.out ?_; rintro e w1 ⟨rfl, hb1⟩; have HS1 : Hid _ := HS22.out.below hb1; clear hb1) | fail)
                go_quiet (fail)
                go_wp2
                go_roundw
                case rel => exact ⟨k + 1, j + 1, gs, by go_num, by go_num, by omega, by omega, HS1.out.below (below_drewN (Below.refl _ _) _)⟩
                case measure => simp [intOf]; omega
          · have h22 : fcode (y0 :: y1 :: yr2) = 22 := by
              unfold fcode
              rw [if_pos (show mkB (y0 :: y1 :: yr2) = false from decide_eq_false (fun h => e1 h.2))]
            have HS22 : Hid _ := HSK.out h22
            clear HSK HST hcells
            go_wp2_with fail
            go_roundw
            case rel => exact ⟨k + 1, j + 1, gs, by go_num, by go_num, by omega, by omega, HS22⟩
            case measure => simp [intOf]; omega
      · have h22 : fcode (y0 :: yr) = 22 := by
          unfold fcode
          rw [if_pos]
          cases yr with
          | nil => exact decide_eq_false e0
          | cons y r => exact decide_eq_false (fun h => e0 h.1)
        have HS22 : Hid _ := HSK.out h22
        clear HSK HST hcells
        go_wp2_with fail
        go_roundw
        case rel => exact ⟨k + 1, j + 1, gs, by go_num, by go_num, by omega, by omega, HS22⟩
        case measure => simp [intOf]; omega
    · obtain rfl : k = xs.length := by omega
      obtain ⟨hd1, hd2⟩ := HI.out.stop (by rw [List.drop_eq_nil_of_le (Nat.le_refl _)]; rfl)
      have HD1 : Hid _ := hd1
      have HD2 : Hid (j = (dec xs).2.1) := hd2
      clear hd1 hd2
      go_wp2_with fail
      go_ret2
      exact ⟨_, gs, by rw [← HD2.out]; rfl, HD1.out, HI.out.row, HI.out.each, HI.out.bel⟩

set_option maxHeartbeats 3200000 in
set_option maxRecDepth 100000 in
theorem says_any (a : Option Addr) (c : Nat) (xs : List Int) (w : World) (hx : Bys w a xs) (hb : Byt xs) (hc : xs.length ≤ c) (hcm : c ≤ maxLen) (hm : xs.length ≤ 900000) :
    Calls Try.prog 22 #[.slice a xs.length c] w fun e w' => ∃ (l : Value) (gs : List (Value × List Int)), e = .returned (.tuple #[l, .int .i64 ((dec xs).2.1 : Nat)]) ∧ gs.map (·.2) = (dec xs).1 ∧ w'.ownsRow w.heap.size 26 1 l gs.length (gs.map (·.1)) ∧ (∀ p ∈ gs, w'.ownsRow w.heap.size 5 1 p.1 p.2.length (bv p.2)) ∧ Below w.heap.size w w' := by
  rcases hx with rfl | ⟨b, o, rfl, hlt, hs⟩
  · have hd : dec [] = ([], 0, 0) := dec_stop rfl
    rw [hd]
    go_enter Try.func22, Try.ntmps22
    go_wp2
    refine wp_loop_rounds 1 ?_
    rw [rounds_succ]
    go_wp2
    go_ret2
    exact ⟨_, [], rfl, rfl, World.ownsRow_nil _ _ _ _, (fun p hp => nomatch hp), Below.refl _ _⟩
  · exact says_some b o c xs w (.inr ⟨b, o, rfl, hlt, hs⟩) hlt hb hc hcm hm
end Go.Proofs.Ytdjibjmhjofedac
