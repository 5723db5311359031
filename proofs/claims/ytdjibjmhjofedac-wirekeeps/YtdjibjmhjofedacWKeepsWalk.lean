/-
  WireKeeps: the walk.
-/
import Derived.Test.YtdjibjmhjofedacWKeeps3
import Derived.Test.YtdjibjmhjofedacWStained
namespace Go.Proofs.Ytdjibjmhjofedac
open Go.RowKit
set_option linter.unusedVariables false

theorem same_true {w : World} {a b : Option Addr} {c d n m : Nat} {xs : List Int} (hx : Bys w a xs) (hy : Bys w b xs) (hm : xs.length ≤ 1000000) (hn : n = xs.length) (hk : m = xs.length) :
    Calls Try.prog 13 #[.slice a n c, .slice b m d] w fun e w' => e = .returned (.bool true) ∧ Below w.heap.size w w' := by
  subst hn
  subst hk
  refine (same_any a b c d xs xs w hx hy (by unfold maxLen; omega)).mono ?_
  rintro e w' ⟨rfl, k, rfl⟩
  exact ⟨by simp, below_drewN (Below.refl _ _) k⟩

/-- What the nine lists of a round hold. -/
def contOf (l : List (List Int)) (j : Nat) : List Int := l[j]?.getD []

set_option maxHeartbeats 16000000 in
set_option maxRecDepth 100000 in
theorem keeps_small (v : Int) (s : ByteArray) (ab ao : Option Addr) (cb co : Nat) (body other : List Int) (rounds : Int) (w : World) (hv : -9223372036854775808 ≤ v ∧ v ≤ 9223372036854775807) (hr : -9223372036854775808 ≤ rounds ∧ rounds ≤ 9223372036854775807) (hs : s.size ≤ 20000)
    (hx : Bys w ab body) (hb : Byt body) (hnb : ab = none → cb = 0) (hbl : body.length ≤ 20000) (hy : Bys w ao other) (ho : Byt other) (hno : ao = none → co = 0) (hol : other.length ≤ 20000) :
    Calls Try.prog 4 #[.int .i64 v, .string s, .slice ab body.length cb, .slice ao other.length co, .int .i64 rounds] w fun e w' => e = .returned (.bool true) ∧ Below w.heap.size w w' := by
  have HX : Hid (Bys w ab body) := hx
  have HY : Hid (Bys w ao other) := hy
  have HBb : Hid (Byt body) := hb
  have HBo : Hid (Byt other) := ho
  have HNb : Hid (ab = none → cb = 0) := hnb
  have HNo : Hid (ao = none → co = 0) := hno
  have HV : Hid (-9223372036854775808 ≤ v ∧ v ≤ 9223372036854775807) := hv
  have hsz : (s.size : Int) ≤ 20000 := by omega
  have hbz : (body.length : Int) ≤ 20000 := by omega
  have hoz : (other.length : Int) ≤ 20000 := by omega
  obtain ⟨NZ, hNZ⟩ : ∃ NZ : List Int, NZ = (if 0 ≤ v ∧ v ≤ 2147483647 then numL v.toNat else []) := ⟨_, rfl⟩
  have HNUM : Hid (∀ W, Calls Try.prog 14 #[.int .i64 v] W fun e w' => ∃ a c d, e = .returned (.tuple #[.slice a NZ.length c, .int .i64 d]) ∧ w'.ownsRow W.heap.size 5 1 (.slice a NZ.length c) NZ.length (bv NZ) ∧ Below W.heap.size W w') := fun W => by
    refine (number_any v W hv).mono ?_
    rintro e w' ⟨a, c, zs, rfl, hz, h1, h2⟩
    rw [← hNZ] at hz
    subst hz
    exact ⟨a, c, _, rfl, h1, h2⟩
  obtain ⟨TL, hTL⟩ : ∃ TL, TL = textL s := ⟨_, rfl⟩
  have HTXT : Hid (∀ W, Calls Try.prog 15 #[.string s] W fun e w' => ∃ a c d, e = .returned (.tuple #[.slice a TL.length c, .int .i64 d]) ∧ w'.ownsRow W.heap.size 5 1 (.slice a TL.length c) TL.length (bv TL) ∧ Below W.heap.size W w') := fun W => by
    refine (text_any s W (by omega)).mono ?_
    rintro e w' ⟨a, c, rfl, h1, h2⟩
    rw [hTL]
    exact ⟨a, c, _, rfl, h1, h2⟩
  obtain ⟨FB, hFB⟩ : ∃ FB, FB = frameL body := ⟨_, rfl⟩
  obtain ⟨FO, hFO⟩ : ∃ FO, FO = frameL other := ⟨_, rfl⟩
  have hFBl : FB.length ≤ 20014 := by rw [hFB, frame_len]; omega
  have hFOl : FO.length ≤ 20014 := by rw [hFO, frame_len]; omega
  have HFRB : Hid (∀ W, Bys W ab body → Calls Try.prog 9 #[.slice (some ⟨W.heap.size, 0, none⟩) 1 1] (W.alloc (.cells #[.slice ab body.length cb] 26)) fun e w' => ∃ a' c', e = .returned (.tuple #[.slice a' FB.length c', .int .i64 0]) ∧ w'.ownsRow W.heap.size 5 1 (.slice a' FB.length c') FB.length (bv FB) ∧ Below W.heap.size W w') := fun W h => by
    rw [hFB]; exact frame_one ab cb body W h HBb.out HNb.out (by omega)
  have HFRO : Hid (∀ W, Bys W ao other → Calls Try.prog 9 #[.slice (some ⟨W.heap.size, 0, none⟩) 1 1] (W.alloc (.cells #[.slice ao other.length co] 26)) fun e w' => ∃ a' c', e = .returned (.tuple #[.slice a' FO.length c', .int .i64 0]) ∧ w'.ownsRow W.heap.size 5 1 (.slice a' FO.length c') FO.length (bv FO) ∧ Below W.heap.size W w') := fun W h => by
    rw [hFO]; exact frame_one ao co other W h HBo.out HNo.out (by omega)
  have HFBb : Hid (Byt FB) := by rw [hFB]; exact frame_byt HBb.out (by omega)
  have HFOb : Hid (Byt FO) := by rw [hFO]; exact frame_byt HBo.out (by omega)
  have HUNF : Hid (∀ (a : Option Addr) (c : Nat) W, Bys W a FB → FB.length ≤ c → c ≤ maxLen → Calls Try.prog 16 #[.slice a FB.length c] W fun e w' => ∃ a' c', e = .returned (.tuple #[.slice a' body.length c', .int .i64 0]) ∧ w'.ownsRow W.heap.size 5 1 (.slice a' body.length c') body.length (bv body) ∧ Below W.heap.size W w') := fun a c W h1 h2 h3 => by
    have hu := unf_frame HBb.out (by omega)
    have h := unframe_any a c FB W h1 HFBb.out h2 h3 (by omega)
    rw [hFB, hu.1, hu.2, ← hFB] at h
    exact h
  have HDEC : Hid (dec (FB ++ FO ++ FB) = ([body, other, body], 0, (FB ++ FO ++ FB).length)) := by rw [hFB, hFO]; exact dec_three HBb.out HBo.out (by omega) (by omega)
  have HNZl : Hid (NZ.length ≤ 20) := by
    show NZ.length ≤ 20
    rw [hNZ]
    split
    · rename_i h
      exact Nat.le_trans (numL_len 5 (by omega) (by omega)).1 (by omega)
    · simp
  have HTLl : Hid (TL.length ≤ 20020) := by
    show TL.length ≤ 20020
    rw [hTL]
    unfold textL
    rw [if_pos (by omega), List.length_append, strL_len]
    have := (numL_len (v := s.size) 5 (by omega) (by omega)).1
    omega
  obtain ⟨cont, hcont⟩ : ∃ cont, cont = contOf [NZ, TL, FB, FO, body, body, body, other, body] := ⟨_, rfl⟩
  have HCT : Hid ([NZ, TL, FB, FO, body, body, body, other, body] = (List.range 9).map cont) := by rw [hcont]; rfl
  have HCL : Hid (∀ j, (cont j).length ≤ 30000) := fun j => by
    have h1 := HNZl.out
    have h2 := HTLl.out
    rw [hcont]
    unfold contOf
    match j with
    | 0 => show NZ.length ≤ _; omega
    | 1 => show TL.length ≤ _; omega
    | 2 => show FB.length ≤ _; omega
    | 3 => show FO.length ≤ _; omega
    | 4 => show body.length ≤ _; omega
    | 5 => show body.length ≤ _; omega
    | 6 => show body.length ≤ _; omega
    | 7 => show other.length ≤ _; omega
    | 8 => show body.length ≤ _; omega
    | j + 9 => simp
  have HC3 : Hid (cont 0 = NZ ∧ cont 1 = TL ∧ cont 2 = FB) := by rw [hcont]; exact ⟨rfl, rfl, rfl⟩
  clear hx hy hb ho hnb hno hv hNZ hTL hFB hFO hcont
  go_enter Try.func4, Try.ntmps4
  go_wp2_with fail
  refine (awake_any w).mono ?_
  rintro e w1 ⟨rfl, hb1⟩
  have HK0 : Hid _ := keeps_start hb1 cont
  obtain ⟨sb, hsb⟩ : ∃ sb, sb = w1.heap.size := ⟨_, rfl⟩
  rw [← hsb] at HK0
  have HSB : Hid (w1.heap.size = sb) := hsb.symm
  clear hb1 hsb
  go_wp2_with fail
  rw [HSB.out]
  go_loopw [11, 13] (fun bk r wr => ∃ (k : Nat) (es : List En) (rv fv : Value), r = .int .i64 k ∧ k ≤ 40 ∧ es.length = 9 * k ∧ Hid (Kb w cont es bk wr) ∧ Hid (Kr w es sb rv fv [] wr)) (fun _ r _ => 40 - (intOf r).toNat)
  case atStart => exact ⟨0, [], _, _, rfl, by omega, rfl, HK0.out.1, HK0.out.2⟩
  case round =>
    clear HK0
    obtain ⟨k, es, rv, fv, rfl, hk, hel, HKB, HKR⟩ := hrel
    have HEL : Hid (es.length = 9 * k) := hel
    have helb : es.length ≤ 360 := by omega
    clear hel
    by_cases hc : k < 2 ∨ ((k : Int) < rounds ∧ k < 40)
    · rcases Nat.lt_or_ge k 2 with hk2 | hk2
      · have hk2' : (k : Int) < 2 := by omega
        obtain ⟨WR, rfl⟩ : ∃ WR, WR = wr := ⟨_, rfl⟩
        have HRD0 : Hid (Rd w WR cont es u11 sb rv fv [] [] [] WR) := Rd.begin HKB.out HKR.out
        have HBW : Hid (Below w.heap.size w WR) := HKR.out.bel
        clear hc HKB HKR
        go_wp2_with fail
        refine Calls.mono (HNUM.out WR) ?_
        rintro e w2 ⟨a1, c1, d1, rfl, ho1, hb2⟩
        have HRD1 : Hid _ := HRD0.out.more hb2 ho1
        have HB2 : Hid (Below WR.heap.size WR w2) := hb2
        clear ho1 hb2 HRD0
        go_wp2_with fail
        refine Calls.mono (HTXT.out w2) ?_
        rintro e w3 ⟨a2, c2, d2, rfl, ho2, hb3⟩
        have HRD2 : Hid _ := HRD1.out.more hb3 ho2
        have HB3 : Hid (Below WR.heap.size WR w3) := trans2 HB2.out hb3
        clear ho2 hb3 HRD1 HB2
        go_wp2_with fail
        refine Calls.mono (HFRB.out w3 (HX.out.below (trans2 HBW.out HB3.out))) ?_
        rintro e w4 ⟨a3, c3, rfl, ho3, hb4⟩
        have HRD3 : Hid _ := HRD2.out.more hb4 ho3
        have HB4 : Hid (Below WR.heap.size WR w4) := trans2 HB3.out hb4
        clear ho3 hb4 HRD2 HB3
        go_wp2_with fail
        refine Calls.mono (HFRO.out w4 (HY.out.below (trans2 HBW.out HB4.out))) ?_
        rintro e w5 ⟨a4, c4, rfl, ho4, hb5⟩
        have HRD4 : Hid (Rd w WR cont es u11 sb rv fv [] [(.slice a1 NZ.length c1, NZ), (.slice a2 TL.length c2, TL), (.slice a3 FB.length c3, FB), (.slice a4 FO.length c4, FO)] [] w5) := HRD3.out.more hb5 ho4
        have HB5 : Hid (Below WR.heap.size WR w5) := trans2 HB4.out hb5
        clear ho4 hb5 HRD3 HB4
        obtain ⟨_, _, hv3, hby3, hn3, hl3, hm3⟩ := row_is (HRD4.out.lf (.slice a3 FB.length c3, FB) (by simp))
        simp only [Value.slice.injEq, true_and] at hv3
        obtain ⟨rfl, rfl⟩ := hv3
        have HBY3 : Hid (Bys w5 a3 FB) := hby3
        have HN3 : Hid (a3 = none → c3 = 0) := hn3
        have HL3 : Hid (FB.length ≤ c3 ∧ c3 ≤ maxLen) := ⟨hl3, hm3⟩
        clear hby3 hn3 hl3 hm3
        go_wp2_with fail
        refine Calls.mono (HUNF.out a3 c3 w5 HBY3.out HL3.out.1 HL3.out.2) ?_
        rintro e w6 ⟨a5, c5, rfl, ho5, hb6⟩
        have HRD5 : Hid (Rd w WR cont es u11 sb rv fv [] [(.slice a1 NZ.length c1, NZ), (.slice a2 TL.length c2, TL), (.slice a3 FB.length c3, FB), (.slice a4 FO.length c4, FO), (.slice a5 body.length c5, body)] [] w6) := HRD4.out.more hb6 ho5
        have HB6 : Hid (Below WR.heap.size WR w6) := trans2 HB5.out hb6
        have HBY3b : Hid (Bys w6 a3 FB) := HBY3.out.below hb6
        clear ho5 hb6 HRD4 HB5 HBY3
        go_wp2_with fail
        refine Calls.mono (HUNF.out a3 c3 w6 HBY3b.out HL3.out.1 HL3.out.2) ?_
        rintro e w7 ⟨a6, c6, rfl, ho6, hb7⟩
        have HRD6 : Hid (Rd w WR cont es u11 sb rv fv [] [(.slice a1 NZ.length c1, NZ), (.slice a2 TL.length c2, TL), (.slice a3 FB.length c3, FB), (.slice a4 FO.length c4, FO), (.slice a5 body.length c5, body), (.slice a6 body.length c6, body)] [] w7) := HRD5.out.more hb7 ho6
        have HB7 : Hid (Below WR.heap.size WR w7) := trans2 HB6.out hb7
        have HBY3c : Hid (Bys w7 a3 FB) := HBY3b.out.below hb7
        clear ho6 hb7 HRD5 HB6 HBY3b
        obtain ⟨_, _, hv4, hby4, hn4, _, _⟩ := row_is (HRD6.out.lf (.slice a4 FO.length c4, FO) (by simp))
        simp only [Value.slice.injEq, true_and] at hv4
        obtain ⟨rfl, rfl⟩ := hv4
        have HBY4 : Hid (Bys w7 a4 FO) := hby4
        have HN4 : Hid (a4 = none → c4 = 0) := hn4
        clear hby4 hn4
        -- what is fed
        go_wp2_with (first | (at_builtin; refine wpList_app rfl _ _ rfl w7.heap.size (.slice none 0 0) [] rfl (World.ownsRow_nil _ _ _ _) a3 FB.length c3 FB rfl rfl HBY3c.out HN3.out (by simp; omega) (Nat.le_refl _) ?_) | fail)
        intro vf8 w8 ho8 hg8
        obtain ⟨fa8, fc8, hv8, _⟩ := row_is ho8
        subst hv8
        have HB8 : Hid (Below w7.heap.size w7 w8) := (Below.refl _ _).grown hg8 (Nat.le_refl _) (fun k hk => by cases hk)
        have HO8 : Hid (w8.ownsRow w7.heap.size 5 1 (.slice fa8 FB.length fc8) FB.length (bv FB)) := ho8
        have HBY4b : Hid (Bys w8 a4 FO) := HBY4.out.below HB8.out
        have hs8 : w7.heap.size ≤ w8.heap.size := HB8.out.size
        clear ho8 hg8 HBY4
        go_wp2_with (first | (at_builtin; refine wpList_app rfl _ _ rfl w7.heap.size (.slice fa8 FB.length fc8) FB rfl HO8.out a4 FO.length c4 FO rfl rfl HBY4b.out HN4.out (by omega) hs8 ?_) | fail)
        intro vf9 w9 ho9 hg9
        obtain ⟨F2, hF2⟩ : ∃ F2, F2 = FB ++ FO := ⟨_, rfl⟩
        rw [← hF2, show FB.length + FO.length = F2.length by rw [hF2, List.length_append]] at ho9
        have hF2l : F2.length ≤ 40028 := by rw [hF2, List.length_append]; omega
        obtain ⟨fa9, fc9, hv9, _⟩ := row_is ho9
        subst hv9
        have HB9 : Hid (Below w7.heap.size w7 w9) := HB8.out.trans ((Below.refl _ _).grown hg9 hs8 (fun k hk => (owns_kind HO8.out k hk).2.1))
        have HO9 : Hid (w9.ownsRow w7.heap.size 5 1 (.slice fa9 F2.length fc9) F2.length (bv F2)) := ho9
        have HBY3d : Hid (Bys w9 a3 FB) := HBY3c.out.below HB9.out
        have hs9 : w7.heap.size ≤ w9.heap.size := HB9.out.size
        have HF2 : Hid (F2 = FB ++ FO) := hF2
        clear ho9 hg9 HBY4b HO8 HB8 hs8 hF2
        go_wp2_with (first | (at_builtin; refine wpList_app rfl _ _ rfl w7.heap.size (.slice fa9 F2.length fc9) F2 rfl HO9.out a3 FB.length c3 FB rfl rfl HBY3d.out HN3.out (by omega) hs9 ?_) | fail)
        intro vf10 w10 ho10 hg10
        obtain ⟨YS, hYS⟩ : ∃ YS, YS = F2 ++ FB := ⟨_, rfl⟩
        rw [← hYS, show F2.length + FB.length = YS.length by rw [hYS, List.length_append]] at ho10
        have hYSl : YS.length ≤ 60042 := by rw [hYS, List.length_append]; omega
        obtain ⟨fa10, fc10, hv10, hby10, hn10, _, _⟩ := row_is ho10
        subst hv10
        have HB10 : Hid (Below w7.heap.size w7 w10) := HB9.out.trans ((Below.refl _ _).grown hg10 hs9 (fun k hk => (owns_kind HO9.out k hk).2.1))
        have HBY10 : Hid (Bys w10 fa10 YS) := hby10
        have HN10 : Hid (fa10 = none → fc10 = 0) := hn10
        have HYS : Hid (YS = FB ++ FO ++ FB) := by rw [← HF2.out]; exact hYS
        have hYSm : YS.length ≤ 65536 := by omega
        clear ho10 hg10 hby10 hn10 HO9 HB9 hs9 HBY3d hYS HF2
        go_wp2_with fail
        refine (roomy_any fa10 fc10 YS w10 HBY10.out HN10.out (by omega)).mono ?_
        rintro e w11 ⟨g, cap, rfl, hroom, hb11⟩
        have HB11 : Hid (Below w7.heap.size w7 w11) := trans2 HB10.out hb11
        have HRD7 : Hid (Rd w WR cont es u11 sb rv fv [] [(.slice a1 NZ.length c1, NZ), (.slice a2 TL.length c2, TL), (.slice a3 FB.length c3, FB), (.slice a4 FO.length c4, FO), (.slice a5 body.length c5, body), (.slice a6 body.length c6, body)] [] w11) := HRD6.out.below HB11.out
        have HRM : Hid (Room w11 w10.heap.size g cap YS) := hroom
        have HS10 : Hid (w7.heap.size ≤ w10.heap.size) := HB10.out.size
        clear hroom hb11 HB10 HBY10 HN10
        go_wp2_with fail
        refine (feed_st sb 0 cap (some ⟨g, 0, none⟩) rv fv [] YS [] w11 HRD7.out.kr.st rfl HRM.out.bys (by rw [HYS.out]; intro z hz; simp only [List.mem_append] at hz; rcases hz with (hz | hz) | hz; exact HFBb.out z hz; exact HFOb.out z hz; exact HFBb.out z hz) hYSm (by have := HRM.out.cap; omega) HRM.out.cap.2 (by simp; omega) (by omega)).mono ?_
        rintro e w12 ⟨⟨v12, rfl⟩, rv2, fv2, gs, hF⟩
        have HRD8 : Hid (Rd w WR cont es u11 sb rv2 fv2 gs [(.slice a1 NZ.length c1, NZ), (.slice a2 TL.length c2, TL), (.slice a3 FB.length c3, FB), (.slice a4 FO.length c4, FO), (.slice a5 body.length c5, body), (.slice a6 body.length c6, body)] [] w12) := HRD7.out.fed hF (by rw [HYS.out, HDEC.out]; exact ⟨rfl, rfl⟩)
        have HGS : Hid (gs.map (·.2) = [body, other, body]) := by have := hF.bodies; rw [List.nil_append, HYS.out, HDEC.out] at this; exact this
        have hgl := HRM.out.lt
        have HGF : Hid (∀ p ∈ gs, ∀ b, p.1.ownBlock = some b → w11.heap.size ≤ b) := hF.gsf
        have HRVG : Hid (rv2.ownBlock ≠ some g) := fun e => by
          rcases hF.rvf g e with e | e
          · have := lt_of_owns HRD6.out.kr.st.room g e
            have := HS10.out
            omega
          · omega
        have HG0 : Hid (∃ cur, w12.heap[g]? = some (.cells cur 5 (0, 0)) ∧ YS.length ≤ cur.size) := by
          rcases HRM.out.2 with ⟨h, _⟩ | ⟨g', cap', cur, h, _, hg, h1, h2, h3, _⟩
          · cases h
          · cases h
            refine ⟨cur, (hF.fr.block g (lt_of_blk hg) (fun e => ?_)).trans hg, by omega⟩
            have h10 := HS10.out
            rcases e with e | e | e
            · have := HRD6.out.kr.st.lt; omega
            · have := lt_of_owns HRD6.out.kr.st.room g e; omega
            · have := (HRD6.out.kr.st.fnd.lt g e).1; omega
        have HGW : Hid (w7.heap.size ≤ g ∧ w7.heap.size ≤ w11.heap.size) := ⟨by have := HS10.out; omega, HB11.out.size⟩
        have HGT : Hid (g < w11.heap.size) := hgl.2
        clear hF hgl HRM HRD7 HS10
        go_wp2_with fail
        obtain ⟨wf, hwf⟩ : ∃ wf, wf = w12 := ⟨_, rfl⟩
        have HFR0 : Hid (Fr (fun k => k = g) wf w12) := by rw [hwf]; exact Fr.refl _ _
        have HRDf : Hid (Rd w WR cont es u11 sb rv2 fv2 gs [(.slice a1 NZ.length c1, NZ), (.slice a2 TL.length c2, TL), (.slice a3 FB.length c3, FB), (.slice a4 FO.length c4, FO), (.slice a5 body.length c5, body), (.slice a6 body.length c6, body)] [] wf) := by rw [hwf]; exact HRD8.out
        have HG0f : Hid (∃ cur, wf.heap[g]? = some (.cells cur 5 (0, 0)) ∧ YS.length ≤ cur.size) := by rw [hwf]; exact HG0.out
        clear HRD8 hwf
        go_loopw [27] (fun i wr => ∃ p : Nat, i = .int .i64 p ∧ p ≤ YS.length ∧ Hid (Fr (fun k => k = g) wf wr) ∧ Hid (∃ cur, wr.heap[g]? = some (.cells cur 5 (0, 0)) ∧ YS.length ≤ cur.size)) (fun i _ => YS.length - (intOf i).toNat)
        case atStart => exact ⟨0, rfl, Nat.zero_le _, HFR0, HG0⟩
        case round =>
          clear HFR0 HG0
          obtain ⟨p, rfl, hp, HFR, HGC⟩ := hrel
          by_cases hltp : p < YS.length
          · obtain ⟨cur, hg, hcs⟩ := HGC.out
            obtain ⟨u0, hu0⟩ : ∃ u, wr.cell? ⟨g, p, none⟩ = some u := ⟨cur[p]'(by omega), by rw [cell_blk hg, Array.getElem?_eq_getElem]⟩
            have hfz : wr.frozen? ⟨g, p, none⟩ = false := frozen_blk hg p
            have hltp' : (p : Int) < (YS.length : Int) := by omega
            have HF2 : Hid (Fr (fun k => k = g) wf (wr.setCell ⟨g, p, none⟩ (.int .u8 17))) := HFR.out.trans (Fr.of_setCell _ ⟨g, p, none⟩ _) (fun k e => .inl e)
            have HG2 : Hid (∃ cur, (wr.setCell ⟨g, p, none⟩ (.int .u8 17)).heap[g]? = some (.cells cur 5 (0, 0)) ∧ YS.length ≤ cur.size) := ⟨_, set_blk hg p _, by rw [Array.size_setIfInBounds]; exact hcs⟩
            clear hg hcs
            go_wp2
            go_roundw
            case rel => exact ⟨p + 1, by go_num, by omega, HF2, HG2⟩
            case measure => simp [intOf]; omega
          · obtain rfl : p = YS.length := by omega
            have HRD9 : Hid (Rd w WR cont es u11 sb rv2 fv2 gs [(.slice a1 NZ.length c1, NZ), (.slice a2 TL.length c2, TL), (.slice a3 FB.length c3, FB), (.slice a4 FO.length c4, FO), (.slice a5 body.length c5, body), (.slice a6 body.length c6, body)] [] wr) := by
              obtain ⟨cur, hg, _⟩ := HG0f.out
              have h7 := HGW.out
              refine HRDf.out.spoil HFR.out ⟨cur, hg⟩ (by have := HB7.out.size; omega) HRVG.out (fun q hq e => ?_) (fun q hq e => ?_)
              · have := HGF.out q hq g e
                have := HGT.out
                omega
              · rcases hq with hq | hq
                · have := lt_of_owns (HRD6.out.lf q hq) g e; omega
                · cases hq
            clear HFR HGC hltp hp
            obtain ⟨u1, u2, u3, hgs⟩ := three_of HGS.out
            have HNEW : Hid (∀ p ∈ gs, ∀ b, p.1.ownBlock = some b → WR.heap.size ≤ b) := fun p hp b hb => by
              have := HGF.out p hp b hb
              have := HGW.out
              have := HB7.out.size
              omega
            have HXX : Hid (∀ p ∈ [(.slice a1 NZ.length c1, NZ), (.slice a2 TL.length c2, TL), (.slice a3 FB.length c3, FB), (.slice a4 FO.length c4, FO), (.slice a5 body.length c5, body), (.slice a6 body.length c6, body)], ∀ q ∈ gs, Ax p.1 q.1) := fun p hp q hq => Ax.old (N := w11.heap.size) (fun b hb => by have := lt_of_owns (HRD6.out.lf p hp) b hb; have := HGW.out; omega) (HGF.out q hq)
            rw [hgs] at HNEW HXX HRD9
            clear HRDf HG0f HGF HGW HGT HRVG HRD6 hgs HGS HBY3c
            go_wp2_with fail
            refine (taken_st sb 0 rv2 fv2 [] [(u1, body), (u2, other), (u3, body)] 9 wr HRD9.out.kr.st (by decide) (by simp)).mono ?_
            rintro e wt ⟨kk, lv, fv3, rfl, hk1, hk2, hk3, hT⟩
            obtain rfl : kk = 3 := by simp only [List.length_cons, List.length_nil] at hk1 hk3; omega
            have hRD := HRD9.out.took HNEW.out HXX.out hT
            obtain ⟨lg, lc, hlv, hlc, hlgt, hl0, hl1, hl2, hlk⟩ := three_cells hT.row
            subst hlv
            obtain ⟨a7, c7, hv7, _⟩ := row_is (hRD.lf (u1, body) (by simp))
            obtain ⟨a8, c8, hv8, _⟩ := row_is (hRD.lf (u2, other) (by simp))
            obtain ⟨a9, c9, hv9, _⟩ := row_is (hRD.lf (u3, body) (by simp))
            dsimp only at hv7 hv8 hv9
            subst hv7
            subst hv8
            subst hv9
            have HRDt : Hid (Rd w WR cont es u11 sb rv2 fv3 [] [(.slice a1 NZ.length c1, NZ), (.slice a2 TL.length c2, TL), (.slice a3 FB.length c3, FB), (.slice a4 FO.length c4, FO), (.slice a5 body.length c5, body), (.slice a6 body.length c6, body), (.slice a7 body.length c7, body), (.slice a8 other.length c8, other), (.slice a9 body.length c9, body)] [] wt) := hRD
            have HBYb : Hid (Bys wt ab body) := HX.out.below HRDt.out.kr.bel
            have HBYo : Hid (Bys wt ao other) := HY.out.below HRDt.out.kr.bel
            have HLT : Hid (lg < wt.heap.size) := hlgt
            have HL0 : Hid (wt.cell? ⟨lg, 0, none⟩ = some (.slice a7 body.length c7)) := hl0
            have HL1 : Hid (wt.cell? ⟨lg, 1, none⟩ = some (.slice a8 other.length c8)) := hl1
            have HL2 : Hid (wt.cell? ⟨lg, 2, none⟩ = some (.slice a9 body.length c9)) := hl2
            have HQ : Hid (∀ {a : Option Addr} {c : Nat} {zs : List Int}, (Value.slice a zs.length c, zs) ∈ [(.slice a1 NZ.length c1, NZ), (.slice a2 TL.length c2, TL), (.slice a3 FB.length c3, FB), (.slice a4 FO.length c4, FO), (.slice a5 body.length c5, body), (.slice a6 body.length c6, body), (.slice a7 body.length c7, body), (.slice a8 other.length c8, other), (.slice a9 body.length c9, body)] → Bys wt a zs) := fun {a c zs} hm => by
              obtain ⟨a', c', hv, hb, _⟩ := row_is (HRDt.out.lf _ hm)
              simp only [Value.slice.injEq, true_and] at hv
              rw [hv.1]
              exact hb
            have HLK : Hid (∃ cur, wt.heap[lg]? = some (.cells cur 26 (0, 0))) := hlk
            clear hRD hT hk1 hk2 hk3 HNEW HXX HRD9 hlk hlgt hl0 hl1 hl2
            have hlc3 : (3 : Int) ≤ (lc : Int) := by omega
            have hl0 := HL0.out
            go_wp2_with fail
            refine (same_true (xs := body) (HQ.out (a := a5) (c := c5) (by simp)) HBYb.out (by omega) rfl rfl).mono ?_
            rintro e wt1 ⟨rfl, hb1⟩
            have HBt1 : Hid (Below wt.heap.size wt wt1) := hb1
            clear hb1 hl0
            go_wp2_with fail
            refine (same_true (xs := body) ((HQ.out (a := a6) (c := c6) (by simp)).below HBt1.out) (HBYb.out.below HBt1.out) (by omega) rfl rfl).mono ?_
            rintro e wt2 ⟨rfl, hb2⟩
            have HBt2 : Hid (Below wt.heap.size wt wt2) := trans2 HBt1.out hb2
            have hl0 : wt2.cell? ⟨lg, 0, none⟩ = some (.slice a7 body.length c7) := (HBt2.out.cell (p := ⟨lg, 0, none⟩) HLT.out).trans HL0.out
            clear hb2 HBt1
            go_wp2_with fail
            refine (same_true (xs := body) ((HQ.out (a := a7) (c := c7) (by simp)).below HBt2.out) (HBYb.out.below HBt2.out) (by omega) rfl rfl).mono ?_
            rintro e wt3 ⟨rfl, hb3⟩
            have HBt3 : Hid (Below wt.heap.size wt wt3) := trans2 HBt2.out hb3
            have hl1 : wt3.cell? ⟨lg, 1, none⟩ = some (.slice a8 other.length c8) := (HBt3.out.cell (p := ⟨lg, 1, none⟩) HLT.out).trans HL1.out
            clear hb3 HBt2 hl0
            go_wp2_with fail
            refine (same_true (xs := other) ((HQ.out (a := a8) (c := c8) (by simp)).below HBt3.out) (HBYo.out.below HBt3.out) (by omega) rfl rfl).mono ?_
            rintro e wt4 ⟨rfl, hb4⟩
            have HBt4 : Hid (Below wt.heap.size wt wt4) := trans2 HBt3.out hb4
            have hl2 : wt4.cell? ⟨lg, 2, none⟩ = some (.slice a9 body.length c9) := (HBt4.out.cell (p := ⟨lg, 2, none⟩) HLT.out).trans HL2.out
            clear hb4 HBt3 hl1
            go_wp2_with fail
            refine (same_true (xs := body) ((HQ.out (a := a9) (c := c9) (by simp)).below HBt4.out) (HBYb.out.below HBt4.out) (by omega) rfl rfl).mono ?_
            rintro e wt5 ⟨rfl, hb5⟩
            have HBt5 : Hid (Below wt.heap.size wt wt5) := trans2 HBt4.out hb5
            clear hb5 HBt4 hl2
            go_wp2_with fail
            refine (skipped_st sb 0 wt5 (HRDt.out.below HBt5.out).kr.st.c2).mono ?_
            rintro e wt5 ⟨rfl, rfl⟩
            go_wp2_with fail
            have HBd : Hid (Below wt.heap.size wt wt5.drew) := HBt5.out.drew
            have HRk0 : Hid (Rd w WR cont es u11 sb rv2 fv3 [] [(.slice a1 NZ.length c1, NZ), (.slice a2 TL.length c2, TL), (.slice a3 FB.length c3, FB), (.slice a4 FO.length c4, FO), (.slice a5 body.length c5, body), (.slice a6 body.length c6, body), (.slice a7 body.length c7, body), (.slice a8 other.length c8, other), (.slice a9 body.length c9, body)] [] wt5.drew) := HRDt.out.below HBd.out
            have HCL : Hid (∀ W, Below wt.heap.size wt W → W.cell? ⟨lg, 0, none⟩ = some (.slice a7 body.length c7) ∧ W.cell? ⟨lg, 1, none⟩ = some (.slice a8 other.length c8) ∧ W.cell? ⟨lg, 2, none⟩ = some (.slice a9 body.length c9)) := fun W h => ⟨(h.cell (p := ⟨lg, 0, none⟩) HLT.out).trans HL0.out, (h.cell (p := ⟨lg, 1, none⟩) HLT.out).trans HL1.out, (h.cell (p := ⟨lg, 2, none⟩) HLT.out).trans HL2.out⟩
            clear HQ HBYb HBYo HBt5
            refine wp_region_held_drew (S := (fun w' => w'.cell? ⟨lg, 0, none⟩ = some (.slice a7 body.length c7) ∧ w'.cell? ⟨lg, 1, none⟩ = some (.slice a8 other.length c8) ∧ w'.cell? ⟨lg, 2, none⟩ = some (.slice a9 body.length c9))) (by kernel_rfl) (HCL.out _ HBd.out) (fun hHeld => ?_)
            refine wpAnyH_take (i := 0) (v := ?va_0) rfl (by kernel_rfl) (by kernel_rfl) (by kernel_rfl) (fun _ _ _ h => h) ?hya_0 hHeld ?ha_0
            case hya_0 => refine Or.inl ⟨by rfl, ?_⟩; intro w hSw; obtain ⟨hh1, hh2, hh3⟩ := hSw; go_simp <;> with_reducible rfl
            simp only [List.getElem_toArray, List.getElem_cons_zero, Act.put, List.setIfInBounds_toArray, List.set_cons_zero, List.set_cons_succ]
            refine wpAnyH_take (i := 1) (v := ?va_1) rfl (by kernel_rfl) (by kernel_rfl) (by kernel_rfl) (fun _ _ _ h => h) ?hya_1 hHeld ?ha_1
            case hya_1 => refine Or.inl ⟨by rfl, ?_⟩; intro w hSw; obtain ⟨hh1, hh2, hh3⟩ := hSw; go_simp <;> with_reducible rfl
            simp only [List.getElem_toArray, List.getElem_cons_succ, List.getElem_cons_zero, Act.put, List.setIfInBounds_toArray, List.set_cons_zero, List.set_cons_succ]
            refine wpAnyH_take (i := 3) (v := ?va_3) rfl (by kernel_rfl) (by kernel_rfl) (by kernel_rfl) (fun _ _ _ h => h) ?hya_3 hHeld ?ha_3
            case hya_3 => refine Or.inl ⟨by rfl, ?_⟩; intro w hSw; obtain ⟨hh1, hh2, hh3⟩ := hSw; go_simp <;> with_reducible rfl
            simp only [List.getElem_toArray, List.getElem_cons_succ, List.getElem_cons_zero, Act.put, List.setIfInBounds_toArray, List.set_cons_zero, List.set_cons_succ]
            refine wpAnyH_take (i := 5) (v := ?va_5) rfl (by kernel_rfl) (by kernel_rfl) (by kernel_rfl) (fun _ _ _ h => h) ?hya_5 hHeld ?ha_5
            case hya_5 => refine Or.inl ⟨by rfl, ?_⟩; intro w hSw; obtain ⟨hh1, hh2, hh3⟩ := hSw; go_simp <;> with_reducible rfl
            simp only [List.getElem_toArray, List.getElem_cons_succ, List.getElem_cons_zero, Act.put, List.setIfInBounds_toArray, List.set_cons_zero, List.set_cons_succ]
            refine wpAnyH_take (i := 7) (v := ?va_7) rfl (by kernel_rfl) (by kernel_rfl) (by kernel_rfl) (fun _ _ _ h => h) ?hya_7 hHeld ?ha_7
            case hya_7 => refine Or.inl ⟨by rfl, ?_⟩; intro w hSw; obtain ⟨hh1, hh2, hh3⟩ := hSw; go_simp <;> with_reducible rfl
            simp only [List.getElem_toArray, List.getElem_cons_succ, List.getElem_cons_zero, Act.put, List.setIfInBounds_toArray, List.set_cons_zero, List.set_cons_succ]
            refine wpAnyH_take (i := 9) (v := ?va_9) rfl (by kernel_rfl) (by kernel_rfl) (by kernel_rfl) (fun _ _ _ h => h) ?hya_9 hHeld ?ha_9
            case hya_9 => refine Or.inl ⟨by rfl, ?_⟩; intro w hSw; obtain ⟨hh1, hh2, hh3⟩ := hSw; go_simp <;> with_reducible rfl
            simp only [List.getElem_toArray, List.getElem_cons_succ, List.getElem_cons_zero, Act.put, List.setIfInBounds_toArray, List.set_cons_zero, List.set_cons_succ]
            refine wpAnyH_take (i := 11) (v := ?va_11) rfl (by kernel_rfl) (by kernel_rfl) (by kernel_rfl) (fun _ _ _ h => h) ?hya_11 hHeld ?ha_11
            case hya_11 => refine Or.inl ⟨by rfl, ?_⟩; intro w hSw; obtain ⟨hh1, hh2, hh3⟩ := hSw; go_simp <;> with_reducible rfl
            simp only [List.getElem_toArray, List.getElem_cons_succ, List.getElem_cons_zero, Act.put, List.setIfInBounds_toArray, List.set_cons_zero, List.set_cons_succ]
            refine wpAnyH_take (i := 13) (v := ?va_13) rfl (by kernel_rfl) (by kernel_rfl) (by kernel_rfl) (fun _ _ _ h => h) ?hya_13 hHeld ?ha_13
            case hya_13 => refine Or.inl ⟨by rfl, ?_⟩; intro w hSw; obtain ⟨hh1, hh2, hh3⟩ := hSw; go_simp <;> with_reducible rfl
            simp only [List.getElem_toArray, List.getElem_cons_succ, List.getElem_cons_zero, Act.put, List.setIfInBounds_toArray, List.set_cons_zero, List.set_cons_succ]
            refine wpAnyH_take (i := 14) (v := ?va_14) rfl (by kernel_rfl) (by kernel_rfl) (by kernel_rfl) (fun _ _ _ h => h) ?hya_14 hHeld ?ha_14
            case hya_14 => refine Or.inl ⟨by rfl, ?_⟩; intro w hSw; obtain ⟨hh1, hh2, hh3⟩ := hSw; go_simp <;> with_reducible rfl
            simp only [List.getElem_toArray, List.getElem_cons_succ, List.getElem_cons_zero, Act.put, List.setIfInBounds_toArray, List.set_cons_zero, List.set_cons_succ]
            refine wpAnyH_take (i := 15) (v := ?va_15) rfl (by kernel_rfl) (by kernel_rfl) (by kernel_rfl) (fun _ _ _ h => h) ?hya_15 hHeld ?ha_15
            case hya_15 => refine Or.inl ⟨by rfl, ?_⟩; intro w hSw; obtain ⟨hh1, hh2, hh3⟩ := hSw; go_simp <;> with_reducible rfl
            simp only [List.getElem_toArray, List.getElem_cons_succ, List.getElem_cons_zero, Act.put, List.setIfInBounds_toArray, List.set_cons_zero, List.set_cons_succ]
            refine wpAnyH_take (i := 17) (v := ?va_17) rfl (by kernel_rfl) (by kernel_rfl) (by kernel_rfl) (fun _ _ _ h => h) ?hya_17 hHeld ?ha_17
            case hya_17 => refine Or.inl ⟨by rfl, ?_⟩; intro w hSw; obtain ⟨hh1, hh2, hh3⟩ := hSw; go_simp <;> with_reducible rfl
            simp only [List.getElem_toArray, List.getElem_cons_succ, List.getElem_cons_zero, Act.put, List.setIfInBounds_toArray, List.set_cons_zero, List.set_cons_succ]
            refine wpAnyH_take (i := 18) (v := ?va_18) rfl (by kernel_rfl) (by kernel_rfl) (by kernel_rfl) (fun _ _ _ h => h) ?hya_18 hHeld ?ha_18
            case hya_18 => refine Or.inl ⟨by rfl, ?_⟩; intro w hSw; obtain ⟨hh1, hh2, hh3⟩ := hSw; go_simp <;> with_reducible rfl
            simp only [List.getElem_toArray, List.getElem_cons_succ, List.getElem_cons_zero, Act.put, List.setIfInBounds_toArray, List.set_cons_zero, List.set_cons_succ]
            refine wpAnyH_take (i := 19) (v := ?va_19) rfl (by kernel_rfl) (by kernel_rfl) (by kernel_rfl) (fun _ _ _ h => h) ?hya_19 hHeld ?ha_19
            case hya_19 => refine Or.inl ⟨by rfl, ?_⟩; intro w hSw; obtain ⟨hh1, hh2, hh3⟩ := hSw; go_simp <;> with_reducible rfl
            simp only [List.getElem_toArray, List.getElem_cons_succ, List.getElem_cons_zero, Act.put, List.setIfInBounds_toArray, List.set_cons_zero, List.set_cons_succ]
            refine wpAnyH_take (i := 21) (v := ?va_21) rfl (by kernel_rfl) (by kernel_rfl) (by kernel_rfl) (fun _ _ _ h => h) ?hya_21 hHeld ?ha_21
            case hya_21 => refine Or.inl ⟨by rfl, ?_⟩; intro w hSw; obtain ⟨hh1, hh2, hh3⟩ := hSw; go_simp <;> with_reducible rfl
            simp only [List.getElem_toArray, List.getElem_cons_succ, List.getElem_cons_zero, Act.put, List.setIfInBounds_toArray, List.set_cons_zero, List.set_cons_succ]
            refine wpAnyH_take (i := 22) (v := ?va_22) rfl (by kernel_rfl) (by kernel_rfl) (by kernel_rfl) (fun _ _ _ h => h) ?hya_22 hHeld ?ha_22
            case hya_22 => refine Or.inl ⟨by rfl, ?_⟩; intro w hSw; obtain ⟨hh1, hh2, hh3⟩ := hSw; go_simp <;> with_reducible rfl
            simp only [List.getElem_toArray, List.getElem_cons_succ, List.getElem_cons_zero, Act.put, List.setIfInBounds_toArray, List.set_cons_zero, List.set_cons_succ]
            refine wpAnyH_take (i := 23) (v := ?va_23) rfl (by kernel_rfl) (by kernel_rfl) (by kernel_rfl) (fun _ _ _ h => h) ?hya_23 hHeld ?ha_23
            case hya_23 => refine Or.inl ⟨by rfl, ?_⟩; intro w hSw; obtain ⟨hh1, hh2, hh3⟩ := hSw; go_simp <;> with_reducible rfl
            simp only [List.getElem_toArray, List.getElem_cons_succ, List.getElem_cons_zero, Act.put, List.setIfInBounds_toArray, List.set_cons_zero, List.set_cons_succ]
            refine wpAnyH_ready (rs := [2]) (by kernel_rfl) (by simp) ?_
            refine AllReadyH.cons rfl (fun K hK => ?_) AllReadyH.nil
            go_simp
            refine (keep_any a1 c1 NZ wt5.drew (HRk0.out.bys (a := a1) (c := c1) (zs := NZ) (by simp)).1 (HRk0.out.bys (a := a1) (c := c1) (zs := NZ) (by simp)).2 (by have := HNZl.out; have := HTLl.out; omega)).mono ?_
            rintro e wk1 ⟨b1, e1, rfl, hok, hbk⟩
            have HRk1 : Hid (Rd w WR cont es u11 sb rv2 fv3 [] [(.slice a1 NZ.length c1, NZ), (.slice a2 TL.length c2, TL), (.slice a3 FB.length c3, FB), (.slice a4 FO.length c4, FO), (.slice a5 body.length c5, body), (.slice a6 body.length c6, body), (.slice a7 body.length c7, body), (.slice a8 other.length c8, other), (.slice a9 body.length c9, body)] [(.slice b1 NZ.length e1, NZ)] wk1) := HRk0.out.copy hbk hok
            have HBk1 : Hid (Below wt.heap.size wt wk1) := trans2 HBd.out hbk
            refine hK.out _ _ (HCL.out _ HBk1.out) (fun hHeld => ?_)
            clear hK K hok hbk HRk0 HBd
            try simp only [List.getElem_toArray, List.getElem_cons_succ, List.getElem_cons_zero, Act.put, List.setIfInBounds_toArray, List.set_cons_zero, List.set_cons_succ]
            refine wpAnyH_ready (rs := [4]) (by kernel_rfl) (by simp) ?_
            refine AllReadyH.cons rfl (fun K hK => ?_) AllReadyH.nil
            go_simp
            refine (keep_any a2 c2 TL wk1 (HRk1.out.bys (a := a2) (c := c2) (zs := TL) (by simp)).1 (HRk1.out.bys (a := a2) (c := c2) (zs := TL) (by simp)).2 (by have := HNZl.out; have := HTLl.out; omega)).mono ?_
            rintro e wk2 ⟨b2, e2, rfl, hok, hbk⟩
            have HRk2 : Hid (Rd w WR cont es u11 sb rv2 fv3 [] [(.slice a1 NZ.length c1, NZ), (.slice a2 TL.length c2, TL), (.slice a3 FB.length c3, FB), (.slice a4 FO.length c4, FO), (.slice a5 body.length c5, body), (.slice a6 body.length c6, body), (.slice a7 body.length c7, body), (.slice a8 other.length c8, other), (.slice a9 body.length c9, body)] [(.slice b1 NZ.length e1, NZ), (.slice b2 TL.length e2, TL)] wk2) := HRk1.out.copy hbk hok
            have HBk2 : Hid (Below wt.heap.size wt wk2) := trans2 HBk1.out hbk
            refine hK.out _ _ (HCL.out _ HBk2.out) (fun hHeld => ?_)
            clear hK K hok hbk HRk1 HBk1
            try simp only [List.getElem_toArray, List.getElem_cons_succ, List.getElem_cons_zero, Act.put, List.setIfInBounds_toArray, List.set_cons_zero, List.set_cons_succ]
            refine wpAnyH_ready (rs := [6]) (by kernel_rfl) (by simp) ?_
            refine AllReadyH.cons rfl (fun K hK => ?_) AllReadyH.nil
            go_simp
            refine (keep_any a3 c3 FB wk2 (HRk2.out.bys (a := a3) (c := c3) (zs := FB) (by simp)).1 (HRk2.out.bys (a := a3) (c := c3) (zs := FB) (by simp)).2 (by have := HNZl.out; have := HTLl.out; omega)).mono ?_
            rintro e wk3 ⟨b3, e3, rfl, hok, hbk⟩
            have HRk3 : Hid (Rd w WR cont es u11 sb rv2 fv3 [] [(.slice a1 NZ.length c1, NZ), (.slice a2 TL.length c2, TL), (.slice a3 FB.length c3, FB), (.slice a4 FO.length c4, FO), (.slice a5 body.length c5, body), (.slice a6 body.length c6, body), (.slice a7 body.length c7, body), (.slice a8 other.length c8, other), (.slice a9 body.length c9, body)] [(.slice b1 NZ.length e1, NZ), (.slice b2 TL.length e2, TL), (.slice b3 FB.length e3, FB)] wk3) := HRk2.out.copy hbk hok
            have HBk3 : Hid (Below wt.heap.size wt wk3) := trans2 HBk2.out hbk
            refine hK.out _ _ (HCL.out _ HBk3.out) (fun hHeld => ?_)
            clear hK K hok hbk HRk2 HBk2
            try simp only [List.getElem_toArray, List.getElem_cons_succ, List.getElem_cons_zero, Act.put, List.setIfInBounds_toArray, List.set_cons_zero, List.set_cons_succ]
            refine wpAnyH_ready (rs := [8]) (by kernel_rfl) (by simp) ?_
            refine AllReadyH.cons rfl (fun K hK => ?_) AllReadyH.nil
            go_simp
            refine (keep_any a4 c4 FO wk3 (HRk3.out.bys (a := a4) (c := c4) (zs := FO) (by simp)).1 (HRk3.out.bys (a := a4) (c := c4) (zs := FO) (by simp)).2 (by have := HNZl.out; have := HTLl.out; omega)).mono ?_
            rintro e wk4 ⟨b4, e4, rfl, hok, hbk⟩
            have HRk4 : Hid (Rd w WR cont es u11 sb rv2 fv3 [] [(.slice a1 NZ.length c1, NZ), (.slice a2 TL.length c2, TL), (.slice a3 FB.length c3, FB), (.slice a4 FO.length c4, FO), (.slice a5 body.length c5, body), (.slice a6 body.length c6, body), (.slice a7 body.length c7, body), (.slice a8 other.length c8, other), (.slice a9 body.length c9, body)] [(.slice b1 NZ.length e1, NZ), (.slice b2 TL.length e2, TL), (.slice b3 FB.length e3, FB), (.slice b4 FO.length e4, FO)] wk4) := HRk3.out.copy hbk hok
            have HBk4 : Hid (Below wt.heap.size wt wk4) := trans2 HBk3.out hbk
            refine hK.out _ _ (HCL.out _ HBk4.out) (fun hHeld => ?_)
            clear hK K hok hbk HRk3 HBk3
            try simp only [List.getElem_toArray, List.getElem_cons_succ, List.getElem_cons_zero, Act.put, List.setIfInBounds_toArray, List.set_cons_zero, List.set_cons_succ]
            refine wpAnyH_ready (rs := [10]) (by kernel_rfl) (by simp) ?_
            refine AllReadyH.cons rfl (fun K hK => ?_) AllReadyH.nil
            go_simp
            refine (keep_any a5 c5 body wk4 (HRk4.out.bys (a := a5) (c := c5) (zs := body) (by simp)).1 (HRk4.out.bys (a := a5) (c := c5) (zs := body) (by simp)).2 (by have := HNZl.out; have := HTLl.out; omega)).mono ?_
            rintro e wk5 ⟨b5, e5, rfl, hok, hbk⟩
            have HRk5 : Hid (Rd w WR cont es u11 sb rv2 fv3 [] [(.slice a1 NZ.length c1, NZ), (.slice a2 TL.length c2, TL), (.slice a3 FB.length c3, FB), (.slice a4 FO.length c4, FO), (.slice a5 body.length c5, body), (.slice a6 body.length c6, body), (.slice a7 body.length c7, body), (.slice a8 other.length c8, other), (.slice a9 body.length c9, body)] [(.slice b1 NZ.length e1, NZ), (.slice b2 TL.length e2, TL), (.slice b3 FB.length e3, FB), (.slice b4 FO.length e4, FO), (.slice b5 body.length e5, body)] wk5) := HRk4.out.copy hbk hok
            have HBk5 : Hid (Below wt.heap.size wt wk5) := trans2 HBk4.out hbk
            refine hK.out _ _ (HCL.out _ HBk5.out) (fun hHeld => ?_)
            clear hK K hok hbk HRk4 HBk4
            try simp only [List.getElem_toArray, List.getElem_cons_succ, List.getElem_cons_zero, Act.put, List.setIfInBounds_toArray, List.set_cons_zero, List.set_cons_succ]
            refine wpAnyH_ready (rs := [12]) (by kernel_rfl) (by simp) ?_
            refine AllReadyH.cons rfl (fun K hK => ?_) AllReadyH.nil
            go_simp
            refine (keep_any a6 c6 body wk5 (HRk5.out.bys (a := a6) (c := c6) (zs := body) (by simp)).1 (HRk5.out.bys (a := a6) (c := c6) (zs := body) (by simp)).2 (by have := HNZl.out; have := HTLl.out; omega)).mono ?_
            rintro e wk6 ⟨b6, e6, rfl, hok, hbk⟩
            have HRk6 : Hid (Rd w WR cont es u11 sb rv2 fv3 [] [(.slice a1 NZ.length c1, NZ), (.slice a2 TL.length c2, TL), (.slice a3 FB.length c3, FB), (.slice a4 FO.length c4, FO), (.slice a5 body.length c5, body), (.slice a6 body.length c6, body), (.slice a7 body.length c7, body), (.slice a8 other.length c8, other), (.slice a9 body.length c9, body)] [(.slice b1 NZ.length e1, NZ), (.slice b2 TL.length e2, TL), (.slice b3 FB.length e3, FB), (.slice b4 FO.length e4, FO), (.slice b5 body.length e5, body), (.slice b6 body.length e6, body)] wk6) := HRk5.out.copy hbk hok
            have HBk6 : Hid (Below wt.heap.size wt wk6) := trans2 HBk5.out hbk
            refine hK.out _ _ (HCL.out _ HBk6.out) (fun hHeld => ?_)
            clear hK K hok hbk HRk5 HBk5
            try simp only [List.getElem_toArray, List.getElem_cons_succ, List.getElem_cons_zero, Act.put, List.setIfInBounds_toArray, List.set_cons_zero, List.set_cons_succ]
            refine wpAnyH_ready (rs := [16]) (by kernel_rfl) (by simp) ?_
            refine AllReadyH.cons rfl (fun K hK => ?_) AllReadyH.nil
            go_simp
            refine (keep_any a7 c7 body wk6 (HRk6.out.bys (a := a7) (c := c7) (zs := body) (by simp)).1 (HRk6.out.bys (a := a7) (c := c7) (zs := body) (by simp)).2 (by have := HNZl.out; have := HTLl.out; omega)).mono ?_
            rintro e wk7 ⟨b7, e7, rfl, hok, hbk⟩
            have HRk7 : Hid (Rd w WR cont es u11 sb rv2 fv3 [] [(.slice a1 NZ.length c1, NZ), (.slice a2 TL.length c2, TL), (.slice a3 FB.length c3, FB), (.slice a4 FO.length c4, FO), (.slice a5 body.length c5, body), (.slice a6 body.length c6, body), (.slice a7 body.length c7, body), (.slice a8 other.length c8, other), (.slice a9 body.length c9, body)] [(.slice b1 NZ.length e1, NZ), (.slice b2 TL.length e2, TL), (.slice b3 FB.length e3, FB), (.slice b4 FO.length e4, FO), (.slice b5 body.length e5, body), (.slice b6 body.length e6, body), (.slice b7 body.length e7, body)] wk7) := HRk6.out.copy hbk hok
            have HBk7 : Hid (Below wt.heap.size wt wk7) := trans2 HBk6.out hbk
            refine hK.out _ _ (HCL.out _ HBk7.out) (fun hHeld => ?_)
            clear hK K hok hbk HRk6 HBk6
            try simp only [List.getElem_toArray, List.getElem_cons_succ, List.getElem_cons_zero, Act.put, List.setIfInBounds_toArray, List.set_cons_zero, List.set_cons_succ]
            refine wpAnyH_ready (rs := [20]) (by kernel_rfl) (by simp) ?_
            refine AllReadyH.cons rfl (fun K hK => ?_) AllReadyH.nil
            go_simp
            refine (keep_any a8 c8 other wk7 (HRk7.out.bys (a := a8) (c := c8) (zs := other) (by simp)).1 (HRk7.out.bys (a := a8) (c := c8) (zs := other) (by simp)).2 (by have := HNZl.out; have := HTLl.out; omega)).mono ?_
            rintro e wk8 ⟨b8, e8, rfl, hok, hbk⟩
            have HRk8 : Hid (Rd w WR cont es u11 sb rv2 fv3 [] [(.slice a1 NZ.length c1, NZ), (.slice a2 TL.length c2, TL), (.slice a3 FB.length c3, FB), (.slice a4 FO.length c4, FO), (.slice a5 body.length c5, body), (.slice a6 body.length c6, body), (.slice a7 body.length c7, body), (.slice a8 other.length c8, other), (.slice a9 body.length c9, body)] [(.slice b1 NZ.length e1, NZ), (.slice b2 TL.length e2, TL), (.slice b3 FB.length e3, FB), (.slice b4 FO.length e4, FO), (.slice b5 body.length e5, body), (.slice b6 body.length e6, body), (.slice b7 body.length e7, body), (.slice b8 other.length e8, other)] wk8) := HRk7.out.copy hbk hok
            have HBk8 : Hid (Below wt.heap.size wt wk8) := trans2 HBk7.out hbk
            refine hK.out _ _ (HCL.out _ HBk8.out) (fun hHeld => ?_)
            clear hK K hok hbk HRk7 HBk7
            try simp only [List.getElem_toArray, List.getElem_cons_succ, List.getElem_cons_zero, Act.put, List.setIfInBounds_toArray, List.set_cons_zero, List.set_cons_succ]
            refine wpAnyH_ready (rs := [24]) (by kernel_rfl) (by simp) ?_
            refine AllReadyH.cons rfl (fun K hK => ?_) AllReadyH.nil
            go_simp
            refine (keep_any a9 c9 body wk8 (HRk8.out.bys (a := a9) (c := c9) (zs := body) (by simp)).1 (HRk8.out.bys (a := a9) (c := c9) (zs := body) (by simp)).2 (by have := HNZl.out; have := HTLl.out; omega)).mono ?_
            rintro e wk9 ⟨b9, e9, rfl, hok, hbk⟩
            have HRk9 : Hid (Rd w WR cont es u11 sb rv2 fv3 [] [(.slice a1 NZ.length c1, NZ), (.slice a2 TL.length c2, TL), (.slice a3 FB.length c3, FB), (.slice a4 FO.length c4, FO), (.slice a5 body.length c5, body), (.slice a6 body.length c6, body), (.slice a7 body.length c7, body), (.slice a8 other.length c8, other), (.slice a9 body.length c9, body)] [(.slice b1 NZ.length e1, NZ), (.slice b2 TL.length e2, TL), (.slice b3 FB.length e3, FB), (.slice b4 FO.length e4, FO), (.slice b5 body.length e5, body), (.slice b6 body.length e6, body), (.slice b7 body.length e7, body), (.slice b8 other.length e8, other), (.slice b9 body.length e9, body)] wk9) := HRk8.out.copy hbk hok
            have HBk9 : Hid (Below wt.heap.size wt wk9) := trans2 HBk8.out hbk
            refine hK.out _ _ (HCL.out _ HBk9.out) (fun hHeld => ?_)
            clear hK K hok hbk HRk8 HBk8
            try simp only [List.getElem_toArray, List.getElem_cons_succ, List.getElem_cons_zero, Act.put, List.setIfInBounds_toArray, List.set_cons_zero, List.set_cons_succ]
            refine wpAnyH_ready (rs := [25]) (by kernel_rfl) (by simp) ?_
            refine AllReadyH.cons rfl (fun K hK => ?_) AllReadyH.nil
            go_simp
            refine hK.out _ _ (HCL.out _ (HBk9.out.alloc HBk9.out.size _)) (fun hHeld => ?_)
            clear hK K hHeld
            obtain ⟨NL, hNL⟩ : ∃ NL : List Value, NL = cellsOf (newOf [(.slice a1 NZ.length c1, NZ), (.slice a2 TL.length c2, TL), (.slice a3 FB.length c3, FB), (.slice a4 FO.length c4, FO), (.slice a5 body.length c5, body), (.slice a6 body.length c6, body), (.slice a7 body.length c7, body), (.slice a8 other.length c8, other), (.slice a9 body.length c9, body)] [(.slice b1 NZ.length e1, NZ), (.slice b2 TL.length e2, TL), (.slice b3 FB.length e3, FB), (.slice b4 FO.length e4, FO), (.slice b5 body.length e5, body), (.slice b6 body.length e6, body), (.slice b7 body.length e7, body), (.slice b8 other.length e8, other), (.slice b9 body.length e9, body)]) := ⟨_, rfl⟩
            have HNL : Hid (NL = cellsOf (newOf [(.slice a1 NZ.length c1, NZ), (.slice a2 TL.length c2, TL), (.slice a3 FB.length c3, FB), (.slice a4 FO.length c4, FO), (.slice a5 body.length c5, body), (.slice a6 body.length c6, body), (.slice a7 body.length c7, body), (.slice a8 other.length c8, other), (.slice a9 body.length c9, body)] [(.slice b1 NZ.length e1, NZ), (.slice b2 TL.length e2, TL), (.slice b3 FB.length e3, FB), (.slice b4 FO.length e4, FO), (.slice b5 body.length e5, body), (.slice b6 body.length e6, body), (.slice b7 body.length e7, body), (.slice b8 other.length e8, other), (.slice b9 body.length e9, body)])) := hNL
            have HNLL : Hid (NL = [.slice a1 NZ.length c1, .slice b1 NZ.length e1, .slice none 0 0, .slice a2 TL.length c2, .slice b2 TL.length e2, .slice none 0 0, .slice a3 FB.length c3, .slice b3 FB.length e3, .slice none 0 0, .slice a4 FO.length c4, .slice b4 FO.length e4, .slice none 0 0, .slice a5 body.length c5, .slice b5 body.length e5, .slice none 0 0, .slice a6 body.length c6, .slice b6 body.length e6, .slice none 0 0, .slice a7 body.length c7, .slice b7 body.length e7, .slice none 0 0, .slice a8 other.length c8, .slice b8 other.length e8, .slice none 0 0, .slice a9 body.length c9, .slice b9 body.length e9, .slice none 0 0]) := hNL.trans rfl
            clear hNL
            have HAL : Hid (wk9.alloc (.cells #[.slice a1 NZ.length c1, .slice b1 NZ.length e1, .slice none 0 0, .slice a2 TL.length c2, .slice b2 TL.length e2, .slice none 0 0, .slice a3 FB.length c3, .slice b3 FB.length e3, .slice none 0 0, .slice a4 FO.length c4, .slice b4 FO.length e4, .slice none 0 0, .slice a5 body.length c5, .slice b5 body.length e5, .slice none 0 0, .slice a6 body.length c6, .slice b6 body.length e6, .slice none 0 0, .slice a7 body.length c7, .slice b7 body.length e7, .slice none 0 0, .slice a8 other.length c8, .slice b8 other.length e8, .slice none 0 0, .slice a9 body.length c9, .slice b9 body.length e9, .slice none 0 0] 45) = wk9.alloc (.cells NL.toArray 45)) := by rw [HNLL.out]; rfl
            rw [HAL.out]
            try simp only [List.getElem_toArray, List.getElem_cons_succ, List.getElem_cons_zero, Act.put, List.setIfInBounds_toArray, List.set_cons_zero, List.set_cons_succ]
            refine wpAnyH_ready (rs := [26]) (by kernel_rfl) (by simp) ?_
            refine AllReadyH.cons rfl (fun K hK => ?_) AllReadyH.nil
            refine step_app_book rfl (.tmp 181) (.tmp 206) rfl (base := w.heap.size) (v := u11) (vals := cellsOf es) (n := es.length) rfl (World.ownsRow.alloc HRk9.out.kb.row _) (ad := ⟨wk9.heap.size, 0, none⟩) (m := 9) (c := 9) (news := NL) rfl (by rw [HNLL.out]; rfl) (cells_lit wk9 NL _) (by rw [HNLL.out]; simp [Value.oneCell']) (by omega) (by rw [World.size_alloc]; have := HRk9.out.kr.bel.size; omega) ?_
            intro bk' wb hrowb hgb
            have hkk : Kb w cont (es ++ newOf [(.slice a1 NZ.length c1, NZ), (.slice a2 TL.length c2, TL), (.slice a3 FB.length c3, FB), (.slice a4 FO.length c4, FO), (.slice a5 body.length c5, body), (.slice a6 body.length c6, body), (.slice a7 body.length c7, body), (.slice a8 other.length c8, other), (.slice a9 body.length c9, body)] [(.slice b1 NZ.length e1, NZ), (.slice b2 TL.length e2, TL), (.slice b3 FB.length e3, FB), (.slice b4 FO.length e4, FO), (.slice b5 body.length e5, body), (.slice b6 body.length e6, body), (.slice b7 body.length e7, body), (.slice b8 other.length e8, other), (.slice b9 body.length e9, body)]) bk' wb ∧ Kr w (es ++ newOf [(.slice a1 NZ.length c1, NZ), (.slice a2 TL.length c2, TL), (.slice a3 FB.length c3, FB), (.slice a4 FO.length c4, FO), (.slice a5 body.length c5, body), (.slice a6 body.length c6, body), (.slice a7 body.length c7, body), (.slice a8 other.length c8, other), (.slice a9 body.length c9, body)] [(.slice b1 NZ.length e1, NZ), (.slice b2 TL.length e2, TL), (.slice b3 FB.length e3, FB), (.slice b4 FO.length e4, FO), (.slice b5 body.length e5, body), (.slice b6 body.length e6, body), (.slice b7 body.length e7, body), (.slice b8 other.length e8, other), (.slice b9 body.length e9, body)]) sb rv2 fv3 [] wb := HRk9.out.book (by have := HEL.out; omega) (by rw [← HCT.out]; rfl) rfl (by rw [List.length_append, cellsOf_append, ← HNL.out]; exact hrowb) hgb
            have HKBn : Hid (Kb w cont (es ++ newOf [(.slice a1 NZ.length c1, NZ), (.slice a2 TL.length c2, TL), (.slice a3 FB.length c3, FB), (.slice a4 FO.length c4, FO), (.slice a5 body.length c5, body), (.slice a6 body.length c6, body), (.slice a7 body.length c7, body), (.slice a8 other.length c8, other), (.slice a9 body.length c9, body)] [(.slice b1 NZ.length e1, NZ), (.slice b2 TL.length e2, TL), (.slice b3 FB.length e3, FB), (.slice b4 FO.length e4, FO), (.slice b5 body.length e5, body), (.slice b6 body.length e6, body), (.slice b7 body.length e7, body), (.slice b8 other.length e8, other), (.slice b9 body.length e9, body)]) bk' wb) := hkk.1
            have HKRn : Hid (Kr w (es ++ newOf [(.slice a1 NZ.length c1, NZ), (.slice a2 TL.length c2, TL), (.slice a3 FB.length c3, FB), (.slice a4 FO.length c4, FO), (.slice a5 body.length c5, body), (.slice a6 body.length c6, body), (.slice a7 body.length c7, body), (.slice a8 other.length c8, other), (.slice a9 body.length c9, body)] [(.slice b1 NZ.length e1, NZ), (.slice b2 TL.length e2, TL), (.slice b3 FB.length e3, FB), (.slice b4 FO.length e4, FO), (.slice b5 body.length e5, body), (.slice b6 body.length e6, body), (.slice b7 body.length e7, body), (.slice b8 other.length e8, other), (.slice b9 body.length e9, body)]) sb rv2 fv3 [] wb) := hkk.2
            have hSb : wb.cell? ⟨lg, 0, none⟩ = some (.slice a7 body.length c7) ∧ wb.cell? ⟨lg, 1, none⟩ = some (.slice a8 other.length c8) ∧ wb.cell? ⟨lg, 2, none⟩ = some (.slice a9 body.length c9) := by
              obtain ⟨h0, h1, h2⟩ := HCL.out wk9 HBk9.out
              obtain ⟨cur, hlk⟩ := HLK.out
              have hlk9 : wk9.heap[lg]? = some (.cells cur 26 (0, 0)) := (HBk9.out.block lg HLT.out).trans hlk
              have hbl : wb.heap[lg]? = wk9.heap[lg]? := by
                refine (hgb.block lg (by rw [World.size_alloc]; have := lt_of_blk hlk9; omega) (fun e => ?_)).trans (Below.heap_alloc _ _ _ (lt_of_blk hlk9))
                obtain ⟨_, _, cur', hc'⟩ := owns_kind3 HRk9.out.kb.row lg e.symm
                rw [hlk9] at hc'
                cases hc'
              exact ⟨(World.cell?_of_block hbl).trans h0, (World.cell?_of_block hbl).trans h1, (World.cell?_of_block hbl).trans h2⟩
            obtain ⟨bg, bc, hbv⟩ : ∃ g c, bk' = .slice g (es.length + 9) c := by
              rcases hrowb.2 with ⟨_, h0⟩ | ⟨g, cap, cur, h, _⟩
              · omega
              · exact ⟨_, _, h⟩
            subst hbv
            refine hK.out _ _ hSb (fun hHeld => ?_)
            clear hK K hrowb hgb hkk hSb HRk9 HBk9 HAL HNL HNLL
            try simp only [List.getElem_toArray, List.getElem_cons_succ, List.getElem_cons_zero, Act.put, List.setIfInBounds_toArray, List.set_cons_zero, List.set_cons_succ]
            refine wpAnyH_ready (rs := [27]) (by kernel_rfl) (by simp) ?_
            refine AllReadyH.cons rfl (fun K hK => ?_) AllReadyH.nil
            go_simp
            refine hK.out _ _ hHeld (fun hHeld => ?_)
            clear hK K hHeld
            refine wpAnyH_done (by kernel_rfl) ?_ _
            go_wp2
            go_roundw
            case rel => exact ⟨k + 1, _, rv2, fv3, by go_num, by omega, by rw [List.length_append, new_len rfl rfl, HEL.out]; omega, HKBn, HKRn⟩
            case measure => simp [intOf]; omega
      · have hk2' : ¬ (k : Int) < 2 := by omega
        have hk3 : (k : Int) < rounds := by omega
        have hk4 : (k : Int) < 40 := by omega
        obtain ⟨WR, rfl⟩ : ∃ WR, WR = wr := ⟨_, rfl⟩
        have HRD0 : Hid (Rd w WR cont es u11 sb rv fv [] [] [] WR) := Rd.begin HKB.out HKR.out
        have HBW : Hid (Below w.heap.size w WR) := HKR.out.bel
        clear hc HKB HKR
        go_wp2_with fail
        refine Calls.mono (HNUM.out WR) ?_
        rintro e w2 ⟨a1, c1, d1, rfl, ho1, hb2⟩
        have HRD1 : Hid _ := HRD0.out.more hb2 ho1
        have HB2 : Hid (Below WR.heap.size WR w2) := hb2
        clear ho1 hb2 HRD0
        go_wp2_with fail
        refine Calls.mono (HTXT.out w2) ?_
        rintro e w3 ⟨a2, c2, d2, rfl, ho2, hb3⟩
        have HRD2 : Hid _ := HRD1.out.more hb3 ho2
        have HB3 : Hid (Below WR.heap.size WR w3) := trans2 HB2.out hb3
        clear ho2 hb3 HRD1 HB2
        go_wp2_with fail
        refine Calls.mono (HFRB.out w3 (HX.out.below (trans2 HBW.out HB3.out))) ?_
        rintro e w4 ⟨a3, c3, rfl, ho3, hb4⟩
        have HRD3 : Hid _ := HRD2.out.more hb4 ho3
        have HB4 : Hid (Below WR.heap.size WR w4) := trans2 HB3.out hb4
        clear ho3 hb4 HRD2 HB3
        go_wp2_with fail
        refine Calls.mono (HFRO.out w4 (HY.out.below (trans2 HBW.out HB4.out))) ?_
        rintro e w5 ⟨a4, c4, rfl, ho4, hb5⟩
        have HRD4 : Hid (Rd w WR cont es u11 sb rv fv [] [(.slice a1 NZ.length c1, NZ), (.slice a2 TL.length c2, TL), (.slice a3 FB.length c3, FB), (.slice a4 FO.length c4, FO)] [] w5) := HRD3.out.more hb5 ho4
        have HB5 : Hid (Below WR.heap.size WR w5) := trans2 HB4.out hb5
        clear ho4 hb5 HRD3 HB4
        obtain ⟨_, _, hv3, hby3, hn3, hl3, hm3⟩ := row_is (HRD4.out.lf (.slice a3 FB.length c3, FB) (by simp))
        simp only [Value.slice.injEq, true_and] at hv3
        obtain ⟨rfl, rfl⟩ := hv3
        have HBY3 : Hid (Bys w5 a3 FB) := hby3
        have HN3 : Hid (a3 = none → c3 = 0) := hn3
        have HL3 : Hid (FB.length ≤ c3 ∧ c3 ≤ maxLen) := ⟨hl3, hm3⟩
        clear hby3 hn3 hl3 hm3
        go_wp2_with fail
        refine Calls.mono (HUNF.out a3 c3 w5 HBY3.out HL3.out.1 HL3.out.2) ?_
        rintro e w6 ⟨a5, c5, rfl, ho5, hb6⟩
        have HRD5 : Hid (Rd w WR cont es u11 sb rv fv [] [(.slice a1 NZ.length c1, NZ), (.slice a2 TL.length c2, TL), (.slice a3 FB.length c3, FB), (.slice a4 FO.length c4, FO), (.slice a5 body.length c5, body)] [] w6) := HRD4.out.more hb6 ho5
        have HB6 : Hid (Below WR.heap.size WR w6) := trans2 HB5.out hb6
        have HBY3b : Hid (Bys w6 a3 FB) := HBY3.out.below hb6
        clear ho5 hb6 HRD4 HB5 HBY3
        go_wp2_with fail
        refine Calls.mono (HUNF.out a3 c3 w6 HBY3b.out HL3.out.1 HL3.out.2) ?_
        rintro e w7 ⟨a6, c6, rfl, ho6, hb7⟩
        have HRD6 : Hid (Rd w WR cont es u11 sb rv fv [] [(.slice a1 NZ.length c1, NZ), (.slice a2 TL.length c2, TL), (.slice a3 FB.length c3, FB), (.slice a4 FO.length c4, FO), (.slice a5 body.length c5, body), (.slice a6 body.length c6, body)] [] w7) := HRD5.out.more hb7 ho6
        have HB7 : Hid (Below WR.heap.size WR w7) := trans2 HB6.out hb7
        have HBY3c : Hid (Bys w7 a3 FB) := HBY3b.out.below hb7
        clear ho6 hb7 HRD5 HB6 HBY3b
        obtain ⟨_, _, hv4, hby4, hn4, _, _⟩ := row_is (HRD6.out.lf (.slice a4 FO.length c4, FO) (by simp))
        simp only [Value.slice.injEq, true_and] at hv4
        obtain ⟨rfl, rfl⟩ := hv4
        have HBY4 : Hid (Bys w7 a4 FO) := hby4
        have HN4 : Hid (a4 = none → c4 = 0) := hn4
        clear hby4 hn4
        -- what is fed
        go_wp2_with (first | (at_builtin; refine wpList_app rfl _ _ rfl w7.heap.size (.slice none 0 0) [] rfl (World.ownsRow_nil _ _ _ _) a3 FB.length c3 FB rfl rfl HBY3c.out HN3.out (by simp; omega) (Nat.le_refl _) ?_) | fail)
        intro vf8 w8 ho8 hg8
        obtain ⟨fa8, fc8, hv8, _⟩ := row_is ho8
        subst hv8
        have HB8 : Hid (Below w7.heap.size w7 w8) := (Below.refl _ _).grown hg8 (Nat.le_refl _) (fun k hk => by cases hk)
        have HO8 : Hid (w8.ownsRow w7.heap.size 5 1 (.slice fa8 FB.length fc8) FB.length (bv FB)) := ho8
        have HBY4b : Hid (Bys w8 a4 FO) := HBY4.out.below HB8.out
        have hs8 : w7.heap.size ≤ w8.heap.size := HB8.out.size
        clear ho8 hg8 HBY4
        go_wp2_with (first | (at_builtin; refine wpList_app rfl _ _ rfl w7.heap.size (.slice fa8 FB.length fc8) FB rfl HO8.out a4 FO.length c4 FO rfl rfl HBY4b.out HN4.out (by omega) hs8 ?_) | fail)
        intro vf9 w9 ho9 hg9
        obtain ⟨F2, hF2⟩ : ∃ F2, F2 = FB ++ FO := ⟨_, rfl⟩
        rw [← hF2, show FB.length + FO.length = F2.length by rw [hF2, List.length_append]] at ho9
        have hF2l : F2.length ≤ 40028 := by rw [hF2, List.length_append]; omega
        obtain ⟨fa9, fc9, hv9, _⟩ := row_is ho9
        subst hv9
        have HB9 : Hid (Below w7.heap.size w7 w9) := HB8.out.trans ((Below.refl _ _).grown hg9 hs8 (fun k hk => (owns_kind HO8.out k hk).2.1))
        have HO9 : Hid (w9.ownsRow w7.heap.size 5 1 (.slice fa9 F2.length fc9) F2.length (bv F2)) := ho9
        have HBY3d : Hid (Bys w9 a3 FB) := HBY3c.out.below HB9.out
        have hs9 : w7.heap.size ≤ w9.heap.size := HB9.out.size
        have HF2 : Hid (F2 = FB ++ FO) := hF2
        clear ho9 hg9 HBY4b HO8 HB8 hs8 hF2
        go_wp2_with (first | (at_builtin; refine wpList_app rfl _ _ rfl w7.heap.size (.slice fa9 F2.length fc9) F2 rfl HO9.out a3 FB.length c3 FB rfl rfl HBY3d.out HN3.out (by omega) hs9 ?_) | fail)
        intro vf10 w10 ho10 hg10
        obtain ⟨YS, hYS⟩ : ∃ YS, YS = F2 ++ FB := ⟨_, rfl⟩
        rw [← hYS, show F2.length + FB.length = YS.length by rw [hYS, List.length_append]] at ho10
        have hYSl : YS.length ≤ 60042 := by rw [hYS, List.length_append]; omega
        obtain ⟨fa10, fc10, hv10, hby10, hn10, _, _⟩ := row_is ho10
        subst hv10
        have HB10 : Hid (Below w7.heap.size w7 w10) := HB9.out.trans ((Below.refl _ _).grown hg10 hs9 (fun k hk => (owns_kind HO9.out k hk).2.1))
        have HBY10 : Hid (Bys w10 fa10 YS) := hby10
        have HN10 : Hid (fa10 = none → fc10 = 0) := hn10
        have HYS : Hid (YS = FB ++ FO ++ FB) := by rw [← HF2.out]; exact hYS
        have hYSm : YS.length ≤ 65536 := by omega
        clear ho10 hg10 hby10 hn10 HO9 HB9 hs9 HBY3d hYS HF2
        go_wp2_with fail
        refine (roomy_any fa10 fc10 YS w10 HBY10.out HN10.out (by omega)).mono ?_
        rintro e w11 ⟨g, cap, rfl, hroom, hb11⟩
        have HB11 : Hid (Below w7.heap.size w7 w11) := trans2 HB10.out hb11
        have HRD7 : Hid (Rd w WR cont es u11 sb rv fv [] [(.slice a1 NZ.length c1, NZ), (.slice a2 TL.length c2, TL), (.slice a3 FB.length c3, FB), (.slice a4 FO.length c4, FO), (.slice a5 body.length c5, body), (.slice a6 body.length c6, body)] [] w11) := HRD6.out.below HB11.out
        have HRM : Hid (Room w11 w10.heap.size g cap YS) := hroom
        have HS10 : Hid (w7.heap.size ≤ w10.heap.size) := HB10.out.size
        clear hroom hb11 HB10 HBY10 HN10
        go_wp2_with fail
        refine (feed_st sb 0 cap (some ⟨g, 0, none⟩) rv fv [] YS [] w11 HRD7.out.kr.st rfl HRM.out.bys (by rw [HYS.out]; intro z hz; simp only [List.mem_append] at hz; rcases hz with (hz | hz) | hz; exact HFBb.out z hz; exact HFOb.out z hz; exact HFBb.out z hz) hYSm (by have := HRM.out.cap; omega) HRM.out.cap.2 (by simp; omega) (by omega)).mono ?_
        rintro e w12 ⟨⟨v12, rfl⟩, rv2, fv2, gs, hF⟩
        have HRD8 : Hid (Rd w WR cont es u11 sb rv2 fv2 gs [(.slice a1 NZ.length c1, NZ), (.slice a2 TL.length c2, TL), (.slice a3 FB.length c3, FB), (.slice a4 FO.length c4, FO), (.slice a5 body.length c5, body), (.slice a6 body.length c6, body)] [] w12) := HRD7.out.fed hF (by rw [HYS.out, HDEC.out]; exact ⟨rfl, rfl⟩)
        have HGS : Hid (gs.map (·.2) = [body, other, body]) := by have := hF.bodies; rw [List.nil_append, HYS.out, HDEC.out] at this; exact this
        have hgl := HRM.out.lt
        have HGF : Hid (∀ p ∈ gs, ∀ b, p.1.ownBlock = some b → w11.heap.size ≤ b) := hF.gsf
        have HRVG : Hid (rv2.ownBlock ≠ some g) := fun e => by
          rcases hF.rvf g e with e | e
          · have := lt_of_owns HRD6.out.kr.st.room g e
            have := HS10.out
            omega
          · omega
        have HG0 : Hid (∃ cur, w12.heap[g]? = some (.cells cur 5 (0, 0)) ∧ YS.length ≤ cur.size) := by
          rcases HRM.out.2 with ⟨h, _⟩ | ⟨g', cap', cur, h, _, hg, h1, h2, h3, _⟩
          · cases h
          · cases h
            refine ⟨cur, (hF.fr.block g (lt_of_blk hg) (fun e => ?_)).trans hg, by omega⟩
            have h10 := HS10.out
            rcases e with e | e | e
            · have := HRD6.out.kr.st.lt; omega
            · have := lt_of_owns HRD6.out.kr.st.room g e; omega
            · have := (HRD6.out.kr.st.fnd.lt g e).1; omega
        have HGW : Hid (w7.heap.size ≤ g ∧ w7.heap.size ≤ w11.heap.size) := ⟨by have := HS10.out; omega, HB11.out.size⟩
        have HGT : Hid (g < w11.heap.size) := hgl.2
        clear hF hgl HRM HRD7 HS10
        go_wp2_with fail
        obtain ⟨wf, hwf⟩ : ∃ wf, wf = w12 := ⟨_, rfl⟩
        have HFR0 : Hid (Fr (fun k => k = g) wf w12) := by rw [hwf]; exact Fr.refl _ _
        have HRDf : Hid (Rd w WR cont es u11 sb rv2 fv2 gs [(.slice a1 NZ.length c1, NZ), (.slice a2 TL.length c2, TL), (.slice a3 FB.length c3, FB), (.slice a4 FO.length c4, FO), (.slice a5 body.length c5, body), (.slice a6 body.length c6, body)] [] wf) := by rw [hwf]; exact HRD8.out
        have HG0f : Hid (∃ cur, wf.heap[g]? = some (.cells cur 5 (0, 0)) ∧ YS.length ≤ cur.size) := by rw [hwf]; exact HG0.out
        clear HRD8 hwf
        go_loopw [27] (fun i wr => ∃ p : Nat, i = .int .i64 p ∧ p ≤ YS.length ∧ Hid (Fr (fun k => k = g) wf wr) ∧ Hid (∃ cur, wr.heap[g]? = some (.cells cur 5 (0, 0)) ∧ YS.length ≤ cur.size)) (fun i _ => YS.length - (intOf i).toNat)
        case atStart => exact ⟨0, rfl, Nat.zero_le _, HFR0, HG0⟩
        case round =>
          clear HFR0 HG0
          obtain ⟨p, rfl, hp, HFR, HGC⟩ := hrel
          by_cases hltp : p < YS.length
          · obtain ⟨cur, hg, hcs⟩ := HGC.out
            obtain ⟨u0, hu0⟩ : ∃ u, wr.cell? ⟨g, p, none⟩ = some u := ⟨cur[p]'(by omega), by rw [cell_blk hg, Array.getElem?_eq_getElem]⟩
            have hfz : wr.frozen? ⟨g, p, none⟩ = false := frozen_blk hg p
            have hltp' : (p : Int) < (YS.length : Int) := by omega
            have HF2 : Hid (Fr (fun k => k = g) wf (wr.setCell ⟨g, p, none⟩ (.int .u8 17))) := HFR.out.trans (Fr.of_setCell _ ⟨g, p, none⟩ _) (fun k e => .inl e)
            have HG2 : Hid (∃ cur, (wr.setCell ⟨g, p, none⟩ (.int .u8 17)).heap[g]? = some (.cells cur 5 (0, 0)) ∧ YS.length ≤ cur.size) := ⟨_, set_blk hg p _, by rw [Array.size_setIfInBounds]; exact hcs⟩
            clear hg hcs
            go_wp2
            go_roundw
            case rel => exact ⟨p + 1, by go_num, by omega, HF2, HG2⟩
            case measure => simp [intOf]; omega
          · obtain rfl : p = YS.length := by omega
            have HRD9 : Hid (Rd w WR cont es u11 sb rv2 fv2 gs [(.slice a1 NZ.length c1, NZ), (.slice a2 TL.length c2, TL), (.slice a3 FB.length c3, FB), (.slice a4 FO.length c4, FO), (.slice a5 body.length c5, body), (.slice a6 body.length c6, body)] [] wr) := by
              obtain ⟨cur, hg, _⟩ := HG0f.out
              have h7 := HGW.out
              refine HRDf.out.spoil HFR.out ⟨cur, hg⟩ (by have := HB7.out.size; omega) HRVG.out (fun q hq e => ?_) (fun q hq e => ?_)
              · have := HGF.out q hq g e
                have := HGT.out
                omega
              · rcases hq with hq | hq
                · have := lt_of_owns (HRD6.out.lf q hq) g e; omega
                · cases hq
            clear HFR HGC hltp hp
            obtain ⟨u1, u2, u3, hgs⟩ := three_of HGS.out
            have HNEW : Hid (∀ p ∈ gs, ∀ b, p.1.ownBlock = some b → WR.heap.size ≤ b) := fun p hp b hb => by
              have := HGF.out p hp b hb
              have := HGW.out
              have := HB7.out.size
              omega
            have HXX : Hid (∀ p ∈ [(.slice a1 NZ.length c1, NZ), (.slice a2 TL.length c2, TL), (.slice a3 FB.length c3, FB), (.slice a4 FO.length c4, FO), (.slice a5 body.length c5, body), (.slice a6 body.length c6, body)], ∀ q ∈ gs, Ax p.1 q.1) := fun p hp q hq => Ax.old (N := w11.heap.size) (fun b hb => by have := lt_of_owns (HRD6.out.lf p hp) b hb; have := HGW.out; omega) (HGF.out q hq)
            rw [hgs] at HNEW HXX HRD9
            clear HRDf HG0f HGF HGW HGT HRVG HRD6 hgs HGS HBY3c
            go_wp2_with fail
            refine (taken_st sb 0 rv2 fv2 [] [(u1, body), (u2, other), (u3, body)] 9 wr HRD9.out.kr.st (by decide) (by simp)).mono ?_
            rintro e wt ⟨kk, lv, fv3, rfl, hk1, hk2, hk3, hT⟩
            obtain rfl : kk = 3 := by simp only [List.length_cons, List.length_nil] at hk1 hk3; omega
            have hRD := HRD9.out.took HNEW.out HXX.out hT
            obtain ⟨lg, lc, hlv, hlc, hlgt, hl0, hl1, hl2, hlk⟩ := three_cells hT.row
            subst hlv
            obtain ⟨a7, c7, hv7, _⟩ := row_is (hRD.lf (u1, body) (by simp))
            obtain ⟨a8, c8, hv8, _⟩ := row_is (hRD.lf (u2, other) (by simp))
            obtain ⟨a9, c9, hv9, _⟩ := row_is (hRD.lf (u3, body) (by simp))
            dsimp only at hv7 hv8 hv9
            subst hv7
            subst hv8
            subst hv9
            have HRDt : Hid (Rd w WR cont es u11 sb rv2 fv3 [] [(.slice a1 NZ.length c1, NZ), (.slice a2 TL.length c2, TL), (.slice a3 FB.length c3, FB), (.slice a4 FO.length c4, FO), (.slice a5 body.length c5, body), (.slice a6 body.length c6, body), (.slice a7 body.length c7, body), (.slice a8 other.length c8, other), (.slice a9 body.length c9, body)] [] wt) := hRD
            have HBYb : Hid (Bys wt ab body) := HX.out.below HRDt.out.kr.bel
            have HBYo : Hid (Bys wt ao other) := HY.out.below HRDt.out.kr.bel
            have HLT : Hid (lg < wt.heap.size) := hlgt
            have HL0 : Hid (wt.cell? ⟨lg, 0, none⟩ = some (.slice a7 body.length c7)) := hl0
            have HL1 : Hid (wt.cell? ⟨lg, 1, none⟩ = some (.slice a8 other.length c8)) := hl1
            have HL2 : Hid (wt.cell? ⟨lg, 2, none⟩ = some (.slice a9 body.length c9)) := hl2
            have HQ : Hid (∀ {a : Option Addr} {c : Nat} {zs : List Int}, (Value.slice a zs.length c, zs) ∈ [(.slice a1 NZ.length c1, NZ), (.slice a2 TL.length c2, TL), (.slice a3 FB.length c3, FB), (.slice a4 FO.length c4, FO), (.slice a5 body.length c5, body), (.slice a6 body.length c6, body), (.slice a7 body.length c7, body), (.slice a8 other.length c8, other), (.slice a9 body.length c9, body)] → Bys wt a zs) := fun {a c zs} hm => by
              obtain ⟨a', c', hv, hb, _⟩ := row_is (HRDt.out.lf _ hm)
              simp only [Value.slice.injEq, true_and] at hv
              rw [hv.1]
              exact hb
            have HLK : Hid (∃ cur, wt.heap[lg]? = some (.cells cur 26 (0, 0))) := hlk
            clear hRD hT hk1 hk2 hk3 HNEW HXX HRD9 hlk hlgt hl0 hl1 hl2
            have hlc3 : (3 : Int) ≤ (lc : Int) := by omega
            have hl0 := HL0.out
            go_wp2_with fail
            refine (same_true (xs := body) (HQ.out (a := a5) (c := c5) (by simp)) HBYb.out (by omega) rfl rfl).mono ?_
            rintro e wt1 ⟨rfl, hb1⟩
            have HBt1 : Hid (Below wt.heap.size wt wt1) := hb1
            clear hb1 hl0
            go_wp2_with fail
            refine (same_true (xs := body) ((HQ.out (a := a6) (c := c6) (by simp)).below HBt1.out) (HBYb.out.below HBt1.out) (by omega) rfl rfl).mono ?_
            rintro e wt2 ⟨rfl, hb2⟩
            have HBt2 : Hid (Below wt.heap.size wt wt2) := trans2 HBt1.out hb2
            have hl0 : wt2.cell? ⟨lg, 0, none⟩ = some (.slice a7 body.length c7) := (HBt2.out.cell (p := ⟨lg, 0, none⟩) HLT.out).trans HL0.out
            clear hb2 HBt1
            go_wp2_with fail
            refine (same_true (xs := body) ((HQ.out (a := a7) (c := c7) (by simp)).below HBt2.out) (HBYb.out.below HBt2.out) (by omega) rfl rfl).mono ?_
            rintro e wt3 ⟨rfl, hb3⟩
            have HBt3 : Hid (Below wt.heap.size wt wt3) := trans2 HBt2.out hb3
            have hl1 : wt3.cell? ⟨lg, 1, none⟩ = some (.slice a8 other.length c8) := (HBt3.out.cell (p := ⟨lg, 1, none⟩) HLT.out).trans HL1.out
            clear hb3 HBt2 hl0
            go_wp2_with fail
            refine (same_true (xs := other) ((HQ.out (a := a8) (c := c8) (by simp)).below HBt3.out) (HBYo.out.below HBt3.out) (by omega) rfl rfl).mono ?_
            rintro e wt4 ⟨rfl, hb4⟩
            have HBt4 : Hid (Below wt.heap.size wt wt4) := trans2 HBt3.out hb4
            have hl2 : wt4.cell? ⟨lg, 2, none⟩ = some (.slice a9 body.length c9) := (HBt4.out.cell (p := ⟨lg, 2, none⟩) HLT.out).trans HL2.out
            clear hb4 HBt3 hl1
            go_wp2_with fail
            refine (same_true (xs := body) ((HQ.out (a := a9) (c := c9) (by simp)).below HBt4.out) (HBYb.out.below HBt4.out) (by omega) rfl rfl).mono ?_
            rintro e wt5 ⟨rfl, hb5⟩
            have HBt5 : Hid (Below wt.heap.size wt wt5) := trans2 HBt4.out hb5
            clear hb5 HBt4 hl2
            go_wp2_with fail
            refine (skipped_st sb 0 wt5 (HRDt.out.below HBt5.out).kr.st.c2).mono ?_
            rintro e wt5 ⟨rfl, rfl⟩
            go_wp2_with fail
            have HBd : Hid (Below wt.heap.size wt wt5.drew) := HBt5.out.drew
            have HRk0 : Hid (Rd w WR cont es u11 sb rv2 fv3 [] [(.slice a1 NZ.length c1, NZ), (.slice a2 TL.length c2, TL), (.slice a3 FB.length c3, FB), (.slice a4 FO.length c4, FO), (.slice a5 body.length c5, body), (.slice a6 body.length c6, body), (.slice a7 body.length c7, body), (.slice a8 other.length c8, other), (.slice a9 body.length c9, body)] [] wt5.drew) := HRDt.out.below HBd.out
            have HCL : Hid (∀ W, Below wt.heap.size wt W → W.cell? ⟨lg, 0, none⟩ = some (.slice a7 body.length c7) ∧ W.cell? ⟨lg, 1, none⟩ = some (.slice a8 other.length c8) ∧ W.cell? ⟨lg, 2, none⟩ = some (.slice a9 body.length c9)) := fun W h => ⟨(h.cell (p := ⟨lg, 0, none⟩) HLT.out).trans HL0.out, (h.cell (p := ⟨lg, 1, none⟩) HLT.out).trans HL1.out, (h.cell (p := ⟨lg, 2, none⟩) HLT.out).trans HL2.out⟩
            clear HQ HBYb HBYo HBt5
            refine wp_region_held_drew (S := (fun w' => w'.cell? ⟨lg, 0, none⟩ = some (.slice a7 body.length c7) ∧ w'.cell? ⟨lg, 1, none⟩ = some (.slice a8 other.length c8) ∧ w'.cell? ⟨lg, 2, none⟩ = some (.slice a9 body.length c9))) (by kernel_rfl) (HCL.out _ HBd.out) (fun hHeld => ?_)
            refine wpAnyH_take (i := 0) (v := ?vb_0) rfl (by kernel_rfl) (by kernel_rfl) (by kernel_rfl) (fun _ _ _ h => h) ?hyb_0 hHeld ?hb_0
            case hyb_0 => refine Or.inl ⟨by rfl, ?_⟩; intro w hSw; obtain ⟨hh1, hh2, hh3⟩ := hSw; go_simp <;> with_reducible rfl
            simp only [List.getElem_toArray, List.getElem_cons_zero, Act.put, List.setIfInBounds_toArray, List.set_cons_zero, List.set_cons_succ]
            refine wpAnyH_take (i := 1) (v := ?vb_1) rfl (by kernel_rfl) (by kernel_rfl) (by kernel_rfl) (fun _ _ _ h => h) ?hyb_1 hHeld ?hb_1
            case hyb_1 => refine Or.inl ⟨by rfl, ?_⟩; intro w hSw; obtain ⟨hh1, hh2, hh3⟩ := hSw; go_simp <;> with_reducible rfl
            simp only [List.getElem_toArray, List.getElem_cons_succ, List.getElem_cons_zero, Act.put, List.setIfInBounds_toArray, List.set_cons_zero, List.set_cons_succ]
            refine wpAnyH_take (i := 3) (v := ?vb_3) rfl (by kernel_rfl) (by kernel_rfl) (by kernel_rfl) (fun _ _ _ h => h) ?hyb_3 hHeld ?hb_3
            case hyb_3 => refine Or.inl ⟨by rfl, ?_⟩; intro w hSw; obtain ⟨hh1, hh2, hh3⟩ := hSw; go_simp <;> with_reducible rfl
            simp only [List.getElem_toArray, List.getElem_cons_succ, List.getElem_cons_zero, Act.put, List.setIfInBounds_toArray, List.set_cons_zero, List.set_cons_succ]
            refine wpAnyH_take (i := 5) (v := ?vb_5) rfl (by kernel_rfl) (by kernel_rfl) (by kernel_rfl) (fun _ _ _ h => h) ?hyb_5 hHeld ?hb_5
            case hyb_5 => refine Or.inl ⟨by rfl, ?_⟩; intro w hSw; obtain ⟨hh1, hh2, hh3⟩ := hSw; go_simp <;> with_reducible rfl
            simp only [List.getElem_toArray, List.getElem_cons_succ, List.getElem_cons_zero, Act.put, List.setIfInBounds_toArray, List.set_cons_zero, List.set_cons_succ]
            refine wpAnyH_take (i := 7) (v := ?vb_7) rfl (by kernel_rfl) (by kernel_rfl) (by kernel_rfl) (fun _ _ _ h => h) ?hyb_7 hHeld ?hb_7
            case hyb_7 => refine Or.inl ⟨by rfl, ?_⟩; intro w hSw; obtain ⟨hh1, hh2, hh3⟩ := hSw; go_simp <;> with_reducible rfl
            simp only [List.getElem_toArray, List.getElem_cons_succ, List.getElem_cons_zero, Act.put, List.setIfInBounds_toArray, List.set_cons_zero, List.set_cons_succ]
            refine wpAnyH_take (i := 9) (v := ?vb_9) rfl (by kernel_rfl) (by kernel_rfl) (by kernel_rfl) (fun _ _ _ h => h) ?hyb_9 hHeld ?hb_9
            case hyb_9 => refine Or.inl ⟨by rfl, ?_⟩; intro w hSw; obtain ⟨hh1, hh2, hh3⟩ := hSw; go_simp <;> with_reducible rfl
            simp only [List.getElem_toArray, List.getElem_cons_succ, List.getElem_cons_zero, Act.put, List.setIfInBounds_toArray, List.set_cons_zero, List.set_cons_succ]
            refine wpAnyH_take (i := 11) (v := ?vb_11) rfl (by kernel_rfl) (by kernel_rfl) (by kernel_rfl) (fun _ _ _ h => h) ?hyb_11 hHeld ?hb_11
            case hyb_11 => refine Or.inl ⟨by rfl, ?_⟩; intro w hSw; obtain ⟨hh1, hh2, hh3⟩ := hSw; go_simp <;> with_reducible rfl
            simp only [List.getElem_toArray, List.getElem_cons_succ, List.getElem_cons_zero, Act.put, List.setIfInBounds_toArray, List.set_cons_zero, List.set_cons_succ]
            refine wpAnyH_take (i := 13) (v := ?vb_13) rfl (by kernel_rfl) (by kernel_rfl) (by kernel_rfl) (fun _ _ _ h => h) ?hyb_13 hHeld ?hb_13
            case hyb_13 => refine Or.inl ⟨by rfl, ?_⟩; intro w hSw; obtain ⟨hh1, hh2, hh3⟩ := hSw; go_simp <;> with_reducible rfl
            simp only [List.getElem_toArray, List.getElem_cons_succ, List.getElem_cons_zero, Act.put, List.setIfInBounds_toArray, List.set_cons_zero, List.set_cons_succ]
            refine wpAnyH_take (i := 14) (v := ?vb_14) rfl (by kernel_rfl) (by kernel_rfl) (by kernel_rfl) (fun _ _ _ h => h) ?hyb_14 hHeld ?hb_14
            case hyb_14 => refine Or.inl ⟨by rfl, ?_⟩; intro w hSw; obtain ⟨hh1, hh2, hh3⟩ := hSw; go_simp <;> with_reducible rfl
            simp only [List.getElem_toArray, List.getElem_cons_succ, List.getElem_cons_zero, Act.put, List.setIfInBounds_toArray, List.set_cons_zero, List.set_cons_succ]
            refine wpAnyH_take (i := 15) (v := ?vb_15) rfl (by kernel_rfl) (by kernel_rfl) (by kernel_rfl) (fun _ _ _ h => h) ?hyb_15 hHeld ?hb_15
            case hyb_15 => refine Or.inl ⟨by rfl, ?_⟩; intro w hSw; obtain ⟨hh1, hh2, hh3⟩ := hSw; go_simp <;> with_reducible rfl
            simp only [List.getElem_toArray, List.getElem_cons_succ, List.getElem_cons_zero, Act.put, List.setIfInBounds_toArray, List.set_cons_zero, List.set_cons_succ]
            refine wpAnyH_take (i := 17) (v := ?vb_17) rfl (by kernel_rfl) (by kernel_rfl) (by kernel_rfl) (fun _ _ _ h => h) ?hyb_17 hHeld ?hb_17
            case hyb_17 => refine Or.inl ⟨by rfl, ?_⟩; intro w hSw; obtain ⟨hh1, hh2, hh3⟩ := hSw; go_simp <;> with_reducible rfl
            simp only [List.getElem_toArray, List.getElem_cons_succ, List.getElem_cons_zero, Act.put, List.setIfInBounds_toArray, List.set_cons_zero, List.set_cons_succ]
            refine wpAnyH_take (i := 18) (v := ?vb_18) rfl (by kernel_rfl) (by kernel_rfl) (by kernel_rfl) (fun _ _ _ h => h) ?hyb_18 hHeld ?hb_18
            case hyb_18 => refine Or.inl ⟨by rfl, ?_⟩; intro w hSw; obtain ⟨hh1, hh2, hh3⟩ := hSw; go_simp <;> with_reducible rfl
            simp only [List.getElem_toArray, List.getElem_cons_succ, List.getElem_cons_zero, Act.put, List.setIfInBounds_toArray, List.set_cons_zero, List.set_cons_succ]
            refine wpAnyH_take (i := 19) (v := ?vb_19) rfl (by kernel_rfl) (by kernel_rfl) (by kernel_rfl) (fun _ _ _ h => h) ?hyb_19 hHeld ?hb_19
            case hyb_19 => refine Or.inl ⟨by rfl, ?_⟩; intro w hSw; obtain ⟨hh1, hh2, hh3⟩ := hSw; go_simp <;> with_reducible rfl
            simp only [List.getElem_toArray, List.getElem_cons_succ, List.getElem_cons_zero, Act.put, List.setIfInBounds_toArray, List.set_cons_zero, List.set_cons_succ]
            refine wpAnyH_take (i := 21) (v := ?vb_21) rfl (by kernel_rfl) (by kernel_rfl) (by kernel_rfl) (fun _ _ _ h => h) ?hyb_21 hHeld ?hb_21
            case hyb_21 => refine Or.inl ⟨by rfl, ?_⟩; intro w hSw; obtain ⟨hh1, hh2, hh3⟩ := hSw; go_simp <;> with_reducible rfl
            simp only [List.getElem_toArray, List.getElem_cons_succ, List.getElem_cons_zero, Act.put, List.setIfInBounds_toArray, List.set_cons_zero, List.set_cons_succ]
            refine wpAnyH_take (i := 22) (v := ?vb_22) rfl (by kernel_rfl) (by kernel_rfl) (by kernel_rfl) (fun _ _ _ h => h) ?hyb_22 hHeld ?hb_22
            case hyb_22 => refine Or.inl ⟨by rfl, ?_⟩; intro w hSw; obtain ⟨hh1, hh2, hh3⟩ := hSw; go_simp <;> with_reducible rfl
            simp only [List.getElem_toArray, List.getElem_cons_succ, List.getElem_cons_zero, Act.put, List.setIfInBounds_toArray, List.set_cons_zero, List.set_cons_succ]
            refine wpAnyH_take (i := 23) (v := ?vb_23) rfl (by kernel_rfl) (by kernel_rfl) (by kernel_rfl) (fun _ _ _ h => h) ?hyb_23 hHeld ?hb_23
            case hyb_23 => refine Or.inl ⟨by rfl, ?_⟩; intro w hSw; obtain ⟨hh1, hh2, hh3⟩ := hSw; go_simp <;> with_reducible rfl
            simp only [List.getElem_toArray, List.getElem_cons_succ, List.getElem_cons_zero, Act.put, List.setIfInBounds_toArray, List.set_cons_zero, List.set_cons_succ]
            refine wpAnyH_ready (rs := [2]) (by kernel_rfl) (by simp) ?_
            refine AllReadyH.cons rfl (fun K hK => ?_) AllReadyH.nil
            go_simp
            refine (keep_any a1 c1 NZ wt5.drew (HRk0.out.bys (a := a1) (c := c1) (zs := NZ) (by simp)).1 (HRk0.out.bys (a := a1) (c := c1) (zs := NZ) (by simp)).2 (by have := HNZl.out; have := HTLl.out; omega)).mono ?_
            rintro e wk1 ⟨b1, e1, rfl, hok, hbk⟩
            have HRk1 : Hid (Rd w WR cont es u11 sb rv2 fv3 [] [(.slice a1 NZ.length c1, NZ), (.slice a2 TL.length c2, TL), (.slice a3 FB.length c3, FB), (.slice a4 FO.length c4, FO), (.slice a5 body.length c5, body), (.slice a6 body.length c6, body), (.slice a7 body.length c7, body), (.slice a8 other.length c8, other), (.slice a9 body.length c9, body)] [(.slice b1 NZ.length e1, NZ)] wk1) := HRk0.out.copy hbk hok
            have HBk1 : Hid (Below wt.heap.size wt wk1) := trans2 HBd.out hbk
            refine hK.out _ _ (HCL.out _ HBk1.out) (fun hHeld => ?_)
            clear hK K hok hbk HRk0 HBd
            try simp only [List.getElem_toArray, List.getElem_cons_succ, List.getElem_cons_zero, Act.put, List.setIfInBounds_toArray, List.set_cons_zero, List.set_cons_succ]
            refine wpAnyH_ready (rs := [4]) (by kernel_rfl) (by simp) ?_
            refine AllReadyH.cons rfl (fun K hK => ?_) AllReadyH.nil
            go_simp
            refine (keep_any a2 c2 TL wk1 (HRk1.out.bys (a := a2) (c := c2) (zs := TL) (by simp)).1 (HRk1.out.bys (a := a2) (c := c2) (zs := TL) (by simp)).2 (by have := HNZl.out; have := HTLl.out; omega)).mono ?_
            rintro e wk2 ⟨b2, e2, rfl, hok, hbk⟩
            have HRk2 : Hid (Rd w WR cont es u11 sb rv2 fv3 [] [(.slice a1 NZ.length c1, NZ), (.slice a2 TL.length c2, TL), (.slice a3 FB.length c3, FB), (.slice a4 FO.length c4, FO), (.slice a5 body.length c5, body), (.slice a6 body.length c6, body), (.slice a7 body.length c7, body), (.slice a8 other.length c8, other), (.slice a9 body.length c9, body)] [(.slice b1 NZ.length e1, NZ), (.slice b2 TL.length e2, TL)] wk2) := HRk1.out.copy hbk hok
            have HBk2 : Hid (Below wt.heap.size wt wk2) := trans2 HBk1.out hbk
            refine hK.out _ _ (HCL.out _ HBk2.out) (fun hHeld => ?_)
            clear hK K hok hbk HRk1 HBk1
            try simp only [List.getElem_toArray, List.getElem_cons_succ, List.getElem_cons_zero, Act.put, List.setIfInBounds_toArray, List.set_cons_zero, List.set_cons_succ]
            refine wpAnyH_ready (rs := [6]) (by kernel_rfl) (by simp) ?_
            refine AllReadyH.cons rfl (fun K hK => ?_) AllReadyH.nil
            go_simp
            refine (keep_any a3 c3 FB wk2 (HRk2.out.bys (a := a3) (c := c3) (zs := FB) (by simp)).1 (HRk2.out.bys (a := a3) (c := c3) (zs := FB) (by simp)).2 (by have := HNZl.out; have := HTLl.out; omega)).mono ?_
            rintro e wk3 ⟨b3, e3, rfl, hok, hbk⟩
            have HRk3 : Hid (Rd w WR cont es u11 sb rv2 fv3 [] [(.slice a1 NZ.length c1, NZ), (.slice a2 TL.length c2, TL), (.slice a3 FB.length c3, FB), (.slice a4 FO.length c4, FO), (.slice a5 body.length c5, body), (.slice a6 body.length c6, body), (.slice a7 body.length c7, body), (.slice a8 other.length c8, other), (.slice a9 body.length c9, body)] [(.slice b1 NZ.length e1, NZ), (.slice b2 TL.length e2, TL), (.slice b3 FB.length e3, FB)] wk3) := HRk2.out.copy hbk hok
            have HBk3 : Hid (Below wt.heap.size wt wk3) := trans2 HBk2.out hbk
            refine hK.out _ _ (HCL.out _ HBk3.out) (fun hHeld => ?_)
            clear hK K hok hbk HRk2 HBk2
            try simp only [List.getElem_toArray, List.getElem_cons_succ, List.getElem_cons_zero, Act.put, List.setIfInBounds_toArray, List.set_cons_zero, List.set_cons_succ]
            refine wpAnyH_ready (rs := [8]) (by kernel_rfl) (by simp) ?_
            refine AllReadyH.cons rfl (fun K hK => ?_) AllReadyH.nil
            go_simp
            refine (keep_any a4 c4 FO wk3 (HRk3.out.bys (a := a4) (c := c4) (zs := FO) (by simp)).1 (HRk3.out.bys (a := a4) (c := c4) (zs := FO) (by simp)).2 (by have := HNZl.out; have := HTLl.out; omega)).mono ?_
            rintro e wk4 ⟨b4, e4, rfl, hok, hbk⟩
            have HRk4 : Hid (Rd w WR cont es u11 sb rv2 fv3 [] [(.slice a1 NZ.length c1, NZ), (.slice a2 TL.length c2, TL), (.slice a3 FB.length c3, FB), (.slice a4 FO.length c4, FO), (.slice a5 body.length c5, body), (.slice a6 body.length c6, body), (.slice a7 body.length c7, body), (.slice a8 other.length c8, other), (.slice a9 body.length c9, body)] [(.slice b1 NZ.length e1, NZ), (.slice b2 TL.length e2, TL), (.slice b3 FB.length e3, FB), (.slice b4 FO.length e4, FO)] wk4) := HRk3.out.copy hbk hok
            have HBk4 : Hid (Below wt.heap.size wt wk4) := trans2 HBk3.out hbk
            refine hK.out _ _ (HCL.out _ HBk4.out) (fun hHeld => ?_)
            clear hK K hok hbk HRk3 HBk3
            try simp only [List.getElem_toArray, List.getElem_cons_succ, List.getElem_cons_zero, Act.put, List.setIfInBounds_toArray, List.set_cons_zero, List.set_cons_succ]
            refine wpAnyH_ready (rs := [10]) (by kernel_rfl) (by simp) ?_
            refine AllReadyH.cons rfl (fun K hK => ?_) AllReadyH.nil
            go_simp
            refine (keep_any a5 c5 body wk4 (HRk4.out.bys (a := a5) (c := c5) (zs := body) (by simp)).1 (HRk4.out.bys (a := a5) (c := c5) (zs := body) (by simp)).2 (by have := HNZl.out; have := HTLl.out; omega)).mono ?_
            rintro e wk5 ⟨b5, e5, rfl, hok, hbk⟩
            have HRk5 : Hid (Rd w WR cont es u11 sb rv2 fv3 [] [(.slice a1 NZ.length c1, NZ), (.slice a2 TL.length c2, TL), (.slice a3 FB.length c3, FB), (.slice a4 FO.length c4, FO), (.slice a5 body.length c5, body), (.slice a6 body.length c6, body), (.slice a7 body.length c7, body), (.slice a8 other.length c8, other), (.slice a9 body.length c9, body)] [(.slice b1 NZ.length e1, NZ), (.slice b2 TL.length e2, TL), (.slice b3 FB.length e3, FB), (.slice b4 FO.length e4, FO), (.slice b5 body.length e5, body)] wk5) := HRk4.out.copy hbk hok
            have HBk5 : Hid (Below wt.heap.size wt wk5) := trans2 HBk4.out hbk
            refine hK.out _ _ (HCL.out _ HBk5.out) (fun hHeld => ?_)
            clear hK K hok hbk HRk4 HBk4
            try simp only [List.getElem_toArray, List.getElem_cons_succ, List.getElem_cons_zero, Act.put, List.setIfInBounds_toArray, List.set_cons_zero, List.set_cons_succ]
            refine wpAnyH_ready (rs := [12]) (by kernel_rfl) (by simp) ?_
            refine AllReadyH.cons rfl (fun K hK => ?_) AllReadyH.nil
            go_simp
            refine (keep_any a6 c6 body wk5 (HRk5.out.bys (a := a6) (c := c6) (zs := body) (by simp)).1 (HRk5.out.bys (a := a6) (c := c6) (zs := body) (by simp)).2 (by have := HNZl.out; have := HTLl.out; omega)).mono ?_
            rintro e wk6 ⟨b6, e6, rfl, hok, hbk⟩
            have HRk6 : Hid (Rd w WR cont es u11 sb rv2 fv3 [] [(.slice a1 NZ.length c1, NZ), (.slice a2 TL.length c2, TL), (.slice a3 FB.length c3, FB), (.slice a4 FO.length c4, FO), (.slice a5 body.length c5, body), (.slice a6 body.length c6, body), (.slice a7 body.length c7, body), (.slice a8 other.length c8, other), (.slice a9 body.length c9, body)] [(.slice b1 NZ.length e1, NZ), (.slice b2 TL.length e2, TL), (.slice b3 FB.length e3, FB), (.slice b4 FO.length e4, FO), (.slice b5 body.length e5, body), (.slice b6 body.length e6, body)] wk6) := HRk5.out.copy hbk hok
            have HBk6 : Hid (Below wt.heap.size wt wk6) := trans2 HBk5.out hbk
            refine hK.out _ _ (HCL.out _ HBk6.out) (fun hHeld => ?_)
            clear hK K hok hbk HRk5 HBk5
            try simp only [List.getElem_toArray, List.getElem_cons_succ, List.getElem_cons_zero, Act.put, List.setIfInBounds_toArray, List.set_cons_zero, List.set_cons_succ]
            refine wpAnyH_ready (rs := [16]) (by kernel_rfl) (by simp) ?_
            refine AllReadyH.cons rfl (fun K hK => ?_) AllReadyH.nil
            go_simp
            refine (keep_any a7 c7 body wk6 (HRk6.out.bys (a := a7) (c := c7) (zs := body) (by simp)).1 (HRk6.out.bys (a := a7) (c := c7) (zs := body) (by simp)).2 (by have := HNZl.out; have := HTLl.out; omega)).mono ?_
            rintro e wk7 ⟨b7, e7, rfl, hok, hbk⟩
            have HRk7 : Hid (Rd w WR cont es u11 sb rv2 fv3 [] [(.slice a1 NZ.length c1, NZ), (.slice a2 TL.length c2, TL), (.slice a3 FB.length c3, FB), (.slice a4 FO.length c4, FO), (.slice a5 body.length c5, body), (.slice a6 body.length c6, body), (.slice a7 body.length c7, body), (.slice a8 other.length c8, other), (.slice a9 body.length c9, body)] [(.slice b1 NZ.length e1, NZ), (.slice b2 TL.length e2, TL), (.slice b3 FB.length e3, FB), (.slice b4 FO.length e4, FO), (.slice b5 body.length e5, body), (.slice b6 body.length e6, body), (.slice b7 body.length e7, body)] wk7) := HRk6.out.copy hbk hok
            have HBk7 : Hid (Below wt.heap.size wt wk7) := trans2 HBk6.out hbk
            refine hK.out _ _ (HCL.out _ HBk7.out) (fun hHeld => ?_)
            clear hK K hok hbk HRk6 HBk6
            try simp only [List.getElem_toArray, List.getElem_cons_succ, List.getElem_cons_zero, Act.put, List.setIfInBounds_toArray, List.set_cons_zero, List.set_cons_succ]
            refine wpAnyH_ready (rs := [20]) (by kernel_rfl) (by simp) ?_
            refine AllReadyH.cons rfl (fun K hK => ?_) AllReadyH.nil
            go_simp
            refine (keep_any a8 c8 other wk7 (HRk7.out.bys (a := a8) (c := c8) (zs := other) (by simp)).1 (HRk7.out.bys (a := a8) (c := c8) (zs := other) (by simp)).2 (by have := HNZl.out; have := HTLl.out; omega)).mono ?_
            rintro e wk8 ⟨b8, e8, rfl, hok, hbk⟩
            have HRk8 : Hid (Rd w WR cont es u11 sb rv2 fv3 [] [(.slice a1 NZ.length c1, NZ), (.slice a2 TL.length c2, TL), (.slice a3 FB.length c3, FB), (.slice a4 FO.length c4, FO), (.slice a5 body.length c5, body), (.slice a6 body.length c6, body), (.slice a7 body.length c7, body), (.slice a8 other.length c8, other), (.slice a9 body.length c9, body)] [(.slice b1 NZ.length e1, NZ), (.slice b2 TL.length e2, TL), (.slice b3 FB.length e3, FB), (.slice b4 FO.length e4, FO), (.slice b5 body.length e5, body), (.slice b6 body.length e6, body), (.slice b7 body.length e7, body), (.slice b8 other.length e8, other)] wk8) := HRk7.out.copy hbk hok
            have HBk8 : Hid (Below wt.heap.size wt wk8) := trans2 HBk7.out hbk
            refine hK.out _ _ (HCL.out _ HBk8.out) (fun hHeld => ?_)
            clear hK K hok hbk HRk7 HBk7
            try simp only [List.getElem_toArray, List.getElem_cons_succ, List.getElem_cons_zero, Act.put, List.setIfInBounds_toArray, List.set_cons_zero, List.set_cons_succ]
            refine wpAnyH_ready (rs := [24]) (by kernel_rfl) (by simp) ?_
            refine AllReadyH.cons rfl (fun K hK => ?_) AllReadyH.nil
            go_simp
            refine (keep_any a9 c9 body wk8 (HRk8.out.bys (a := a9) (c := c9) (zs := body) (by simp)).1 (HRk8.out.bys (a := a9) (c := c9) (zs := body) (by simp)).2 (by have := HNZl.out; have := HTLl.out; omega)).mono ?_
            rintro e wk9 ⟨b9, e9, rfl, hok, hbk⟩
            have HRk9 : Hid (Rd w WR cont es u11 sb rv2 fv3 [] [(.slice a1 NZ.length c1, NZ), (.slice a2 TL.length c2, TL), (.slice a3 FB.length c3, FB), (.slice a4 FO.length c4, FO), (.slice a5 body.length c5, body), (.slice a6 body.length c6, body), (.slice a7 body.length c7, body), (.slice a8 other.length c8, other), (.slice a9 body.length c9, body)] [(.slice b1 NZ.length e1, NZ), (.slice b2 TL.length e2, TL), (.slice b3 FB.length e3, FB), (.slice b4 FO.length e4, FO), (.slice b5 body.length e5, body), (.slice b6 body.length e6, body), (.slice b7 body.length e7, body), (.slice b8 other.length e8, other), (.slice b9 body.length e9, body)] wk9) := HRk8.out.copy hbk hok
            have HBk9 : Hid (Below wt.heap.size wt wk9) := trans2 HBk8.out hbk
            refine hK.out _ _ (HCL.out _ HBk9.out) (fun hHeld => ?_)
            clear hK K hok hbk HRk8 HBk8
            try simp only [List.getElem_toArray, List.getElem_cons_succ, List.getElem_cons_zero, Act.put, List.setIfInBounds_toArray, List.set_cons_zero, List.set_cons_succ]
            refine wpAnyH_ready (rs := [25]) (by kernel_rfl) (by simp) ?_
            refine AllReadyH.cons rfl (fun K hK => ?_) AllReadyH.nil
            go_simp
            refine hK.out _ _ (HCL.out _ (HBk9.out.alloc HBk9.out.size _)) (fun hHeld => ?_)
            clear hK K hHeld
            obtain ⟨NL, hNL⟩ : ∃ NL : List Value, NL = cellsOf (newOf [(.slice a1 NZ.length c1, NZ), (.slice a2 TL.length c2, TL), (.slice a3 FB.length c3, FB), (.slice a4 FO.length c4, FO), (.slice a5 body.length c5, body), (.slice a6 body.length c6, body), (.slice a7 body.length c7, body), (.slice a8 other.length c8, other), (.slice a9 body.length c9, body)] [(.slice b1 NZ.length e1, NZ), (.slice b2 TL.length e2, TL), (.slice b3 FB.length e3, FB), (.slice b4 FO.length e4, FO), (.slice b5 body.length e5, body), (.slice b6 body.length e6, body), (.slice b7 body.length e7, body), (.slice b8 other.length e8, other), (.slice b9 body.length e9, body)]) := ⟨_, rfl⟩
            have HNL : Hid (NL = cellsOf (newOf [(.slice a1 NZ.length c1, NZ), (.slice a2 TL.length c2, TL), (.slice a3 FB.length c3, FB), (.slice a4 FO.length c4, FO), (.slice a5 body.length c5, body), (.slice a6 body.length c6, body), (.slice a7 body.length c7, body), (.slice a8 other.length c8, other), (.slice a9 body.length c9, body)] [(.slice b1 NZ.length e1, NZ), (.slice b2 TL.length e2, TL), (.slice b3 FB.length e3, FB), (.slice b4 FO.length e4, FO), (.slice b5 body.length e5, body), (.slice b6 body.length e6, body), (.slice b7 body.length e7, body), (.slice b8 other.length e8, other), (.slice b9 body.length e9, body)])) := hNL
            have HNLL : Hid (NL = [.slice a1 NZ.length c1, .slice b1 NZ.length e1, .slice none 0 0, .slice a2 TL.length c2, .slice b2 TL.length e2, .slice none 0 0, .slice a3 FB.length c3, .slice b3 FB.length e3, .slice none 0 0, .slice a4 FO.length c4, .slice b4 FO.length e4, .slice none 0 0, .slice a5 body.length c5, .slice b5 body.length e5, .slice none 0 0, .slice a6 body.length c6, .slice b6 body.length e6, .slice none 0 0, .slice a7 body.length c7, .slice b7 body.length e7, .slice none 0 0, .slice a8 other.length c8, .slice b8 other.length e8, .slice none 0 0, .slice a9 body.length c9, .slice b9 body.length e9, .slice none 0 0]) := hNL.trans rfl
            clear hNL
            have HAL : Hid (wk9.alloc (.cells #[.slice a1 NZ.length c1, .slice b1 NZ.length e1, .slice none 0 0, .slice a2 TL.length c2, .slice b2 TL.length e2, .slice none 0 0, .slice a3 FB.length c3, .slice b3 FB.length e3, .slice none 0 0, .slice a4 FO.length c4, .slice b4 FO.length e4, .slice none 0 0, .slice a5 body.length c5, .slice b5 body.length e5, .slice none 0 0, .slice a6 body.length c6, .slice b6 body.length e6, .slice none 0 0, .slice a7 body.length c7, .slice b7 body.length e7, .slice none 0 0, .slice a8 other.length c8, .slice b8 other.length e8, .slice none 0 0, .slice a9 body.length c9, .slice b9 body.length e9, .slice none 0 0] 45) = wk9.alloc (.cells NL.toArray 45)) := by rw [HNLL.out]; rfl
            rw [HAL.out]
            try simp only [List.getElem_toArray, List.getElem_cons_succ, List.getElem_cons_zero, Act.put, List.setIfInBounds_toArray, List.set_cons_zero, List.set_cons_succ]
            refine wpAnyH_ready (rs := [26]) (by kernel_rfl) (by simp) ?_
            refine AllReadyH.cons rfl (fun K hK => ?_) AllReadyH.nil
            refine step_app_book rfl (.tmp 181) (.tmp 206) rfl (base := w.heap.size) (v := u11) (vals := cellsOf es) (n := es.length) rfl (World.ownsRow.alloc HRk9.out.kb.row _) (ad := ⟨wk9.heap.size, 0, none⟩) (m := 9) (c := 9) (news := NL) rfl (by rw [HNLL.out]; rfl) (cells_lit wk9 NL _) (by rw [HNLL.out]; simp [Value.oneCell']) (by omega) (by rw [World.size_alloc]; have := HRk9.out.kr.bel.size; omega) ?_
            intro bk' wb hrowb hgb
            have hkk : Kb w cont (es ++ newOf [(.slice a1 NZ.length c1, NZ), (.slice a2 TL.length c2, TL), (.slice a3 FB.length c3, FB), (.slice a4 FO.length c4, FO), (.slice a5 body.length c5, body), (.slice a6 body.length c6, body), (.slice a7 body.length c7, body), (.slice a8 other.length c8, other), (.slice a9 body.length c9, body)] [(.slice b1 NZ.length e1, NZ), (.slice b2 TL.length e2, TL), (.slice b3 FB.length e3, FB), (.slice b4 FO.length e4, FO), (.slice b5 body.length e5, body), (.slice b6 body.length e6, body), (.slice b7 body.length e7, body), (.slice b8 other.length e8, other), (.slice b9 body.length e9, body)]) bk' wb ∧ Kr w (es ++ newOf [(.slice a1 NZ.length c1, NZ), (.slice a2 TL.length c2, TL), (.slice a3 FB.length c3, FB), (.slice a4 FO.length c4, FO), (.slice a5 body.length c5, body), (.slice a6 body.length c6, body), (.slice a7 body.length c7, body), (.slice a8 other.length c8, other), (.slice a9 body.length c9, body)] [(.slice b1 NZ.length e1, NZ), (.slice b2 TL.length e2, TL), (.slice b3 FB.length e3, FB), (.slice b4 FO.length e4, FO), (.slice b5 body.length e5, body), (.slice b6 body.length e6, body), (.slice b7 body.length e7, body), (.slice b8 other.length e8, other), (.slice b9 body.length e9, body)]) sb rv2 fv3 [] wb := HRk9.out.book (by have := HEL.out; omega) (by rw [← HCT.out]; rfl) rfl (by rw [List.length_append, cellsOf_append, ← HNL.out]; exact hrowb) hgb
            have HKBn : Hid (Kb w cont (es ++ newOf [(.slice a1 NZ.length c1, NZ), (.slice a2 TL.length c2, TL), (.slice a3 FB.length c3, FB), (.slice a4 FO.length c4, FO), (.slice a5 body.length c5, body), (.slice a6 body.length c6, body), (.slice a7 body.length c7, body), (.slice a8 other.length c8, other), (.slice a9 body.length c9, body)] [(.slice b1 NZ.length e1, NZ), (.slice b2 TL.length e2, TL), (.slice b3 FB.length e3, FB), (.slice b4 FO.length e4, FO), (.slice b5 body.length e5, body), (.slice b6 body.length e6, body), (.slice b7 body.length e7, body), (.slice b8 other.length e8, other), (.slice b9 body.length e9, body)]) bk' wb) := hkk.1
            have HKRn : Hid (Kr w (es ++ newOf [(.slice a1 NZ.length c1, NZ), (.slice a2 TL.length c2, TL), (.slice a3 FB.length c3, FB), (.slice a4 FO.length c4, FO), (.slice a5 body.length c5, body), (.slice a6 body.length c6, body), (.slice a7 body.length c7, body), (.slice a8 other.length c8, other), (.slice a9 body.length c9, body)] [(.slice b1 NZ.length e1, NZ), (.slice b2 TL.length e2, TL), (.slice b3 FB.length e3, FB), (.slice b4 FO.length e4, FO), (.slice b5 body.length e5, body), (.slice b6 body.length e6, body), (.slice b7 body.length e7, body), (.slice b8 other.length e8, other), (.slice b9 body.length e9, body)]) sb rv2 fv3 [] wb) := hkk.2
            have hSb : wb.cell? ⟨lg, 0, none⟩ = some (.slice a7 body.length c7) ∧ wb.cell? ⟨lg, 1, none⟩ = some (.slice a8 other.length c8) ∧ wb.cell? ⟨lg, 2, none⟩ = some (.slice a9 body.length c9) := by
              obtain ⟨h0, h1, h2⟩ := HCL.out wk9 HBk9.out
              obtain ⟨cur, hlk⟩ := HLK.out
              have hlk9 : wk9.heap[lg]? = some (.cells cur 26 (0, 0)) := (HBk9.out.block lg HLT.out).trans hlk
              have hbl : wb.heap[lg]? = wk9.heap[lg]? := by
                refine (hgb.block lg (by rw [World.size_alloc]; have := lt_of_blk hlk9; omega) (fun e => ?_)).trans (Below.heap_alloc _ _ _ (lt_of_blk hlk9))
                obtain ⟨_, _, cur', hc'⟩ := owns_kind3 HRk9.out.kb.row lg e.symm
                rw [hlk9] at hc'
                cases hc'
              exact ⟨(World.cell?_of_block hbl).trans h0, (World.cell?_of_block hbl).trans h1, (World.cell?_of_block hbl).trans h2⟩
            obtain ⟨bg, bc, hbv⟩ : ∃ g c, bk' = .slice g (es.length + 9) c := by
              rcases hrowb.2 with ⟨_, h0⟩ | ⟨g, cap, cur, h, _⟩
              · omega
              · exact ⟨_, _, h⟩
            subst hbv
            refine hK.out _ _ hSb (fun hHeld => ?_)
            clear hK K hrowb hgb hkk hSb HRk9 HBk9 HAL HNL HNLL
            try simp only [List.getElem_toArray, List.getElem_cons_succ, List.getElem_cons_zero, Act.put, List.setIfInBounds_toArray, List.set_cons_zero, List.set_cons_succ]
            refine wpAnyH_ready (rs := [27]) (by kernel_rfl) (by simp) ?_
            refine AllReadyH.cons rfl (fun K hK => ?_) AllReadyH.nil
            go_simp
            refine hK.out _ _ hHeld (fun hHeld => ?_)
            clear hK K hHeld
            refine wpAnyH_done (by kernel_rfl) ?_ _
            go_wp2
            go_roundw
            case rel => exact ⟨k + 1, _, rv2, fv3, by go_num, by omega, by rw [List.length_append, new_len rfl rfl, HEL.out]; omega, HKBn, HKRn⟩
            case measure => simp [intOf]; omega
    · have hk2 : ¬ (k : Int) < 2 := by omega
      have HKB2 : Hid (Kb w cont es u11 wr) := HKB
      obtain ⟨bg, bcap, hbv, hbc, hbw, hbk⟩ := HKB.out.bk (by have := HEL.out; omega)
      subst hbv
      obtain ⟨WE, rfl⟩ : ∃ WE, WE = wr := ⟨_, rfl⟩
      have HBK : Hid (Bk WE bg es (fun _ => .slice none 0 0)) := hbk
      have HBW : Hid (w.heap.size ≤ bg) := hbw
      have HEP : Hid (18 ≤ es.length ∧ es.length % 9 = 0) := ⟨by have := HEL.out; omega, by have := HEL.out; omega⟩
      have HBE : Hid (Below w.heap.size w WE) := HKR.out.bel
      clear hbk hbw HKB
      by_cases hkr : (k : Int) < rounds
      · have hk40 : ¬ (k : Int) < 40 := by omega
        clear hc
        go_wp2_with fail
        obtain ⟨WE2, hWE2⟩ : ∃ W2, W2 = WE := ⟨_, rfl⟩
        have HBE0 : Hid (Below WE2.heap.size WE2 WE) := by rw [hWE2]; exact Below.refl _ _
        have HBK3 : Hid (Bk WE2 bg es (fun _ => .slice none 0 0)) := by rw [hWE2]; exact HBK.out
        have HKB3 : Hid (Kb w cont es (.slice (some ⟨bg, 0, none⟩) es.length bcap) WE2) := by rw [hWE2]; exact HKB2.out
        have HBE3 : Hid (Below w.heap.size w WE2) := by rw [hWE2]; exact HBE.out
        clear hWE2 HBK HKB2 HBE HKR
        go_loopw [30] (fun i wr => ∃ q : Nat, i = .int .i64 q ∧ q ≤ es.length ∧ Hid (Below WE2.heap.size WE2 wr)) (fun i _ => es.length - (intOf i).toNat)
        case atStart => exact ⟨0, rfl, Nat.zero_le _, HBE0⟩
        case round =>
          clear HBE0
          obtain ⟨q, rfl, hq, HBQ⟩ := hrel
          by_cases hlt : q < es.length
          · obtain ⟨e, he⟩ : ∃ e, es[q]? = some e := ⟨es[q], List.getElem?_eq_getElem hlt⟩
            have hq9l : q % 9 < es.length := by have := HEP.out; omega
            obtain ⟨e9, he9⟩ : ∃ e, es[q % 9]? = some e := ⟨es[q % 9], List.getElem?_eq_getElem hq9l⟩
            obtain ⟨zs, hzs⟩ : ∃ zs, zs = cont (q % 9) := ⟨_, rfl⟩
            have hzl : zs.length ≤ 30000 := by rw [hzs]; exact HCL.out _
            obtain ⟨x1, x2, x3, x4⟩ := HKB3.out.each q e he
            obtain ⟨y1, y2, _, y4⟩ := HKB3.out.each (q % 9) e9 he9
            rw [← hzs] at x1
            rw [Nat.mod_mod, ← hzs] at y1
            rw [x1] at x2 x3 x4
            rw [y1] at y2 y4
            rw [x2] at x3 x4
            rw [y2] at y4
            obtain ⟨la, lc, hlv, hlb, _⟩ := row_is x3
            obtain ⟨wa, wc, hwv, hwb, _⟩ := row_is x4
            obtain ⟨na, nc, hnv, hnb, _⟩ := row_is y4
            obtain ⟨hc0, hc1, _⟩ := HBK3.out.at he
            obtain ⟨_, hd1, _⟩ := HBK3.out.at he9
            rw [hlv] at hc0
            rw [hwv] at hc1
            rw [hnv] at hd1
            have hbgl := HBK3.out.lt
            have HCC : Hid (∀ W, Below WE2.heap.size WE2 W → W.cell? ⟨bg, q * 3, none⟩ = some (.slice la zs.length lc) ∧ W.cell? ⟨bg, q * 3 + 1, none⟩ = some (.slice wa zs.length wc) ∧ W.cell? ⟨bg, q % 9 * 3 + 1, none⟩ = some (.slice na zs.length nc)) := fun W h => ⟨(h.cell (p := ⟨bg, q * 3, none⟩) hbgl).trans hc0, (h.cell (p := ⟨bg, q * 3 + 1, none⟩) hbgl).trans hc1, (h.cell (p := ⟨bg, q % 9 * 3 + 1, none⟩) hbgl).trans hd1⟩
            have HLB : Hid (Bys WE2 la zs ∧ Bys WE2 wa zs ∧ Bys WE2 na zs) := ⟨hlb, hwb, hnb⟩
            have hlt' : (q : Int) < (es.length : Int) := by omega
            have hq9' : (q : Int).tmod 9 < (es.length : Int) := by rw [Int.tmod_eq_emod_of_nonneg (by omega)]; omega
            have hq90 : (0 : Int) ≤ (q : Int).tmod 9 := by rw [Int.tmod_eq_emod_of_nonneg (by omega)]; omega
            have hto : ((q : Int).tmod 9).toNat = q % 9 := by rw [Int.tmod_eq_emod_of_nonneg (by omega)]; omega
            have HBQd : Hid (Below WE2.heap.size WE2 wr.drew) := HBQ.out.drew
            clear he he9 hzs x1 x2 x3 x4 y1 y2 y4 hlv hwv hnv hlb hwb hnb hc0 hc1 hd1 hbgl
            go_wp2_with fail
            refine wp_region_held_drew (S := (fun w' => w'.cell? ⟨bg, q * 3, none⟩ = some (.slice la zs.length lc) ∧ w'.cell? ⟨bg, q * 3 + 1, none⟩ = some (.slice wa zs.length wc) ∧ w'.cell? ⟨bg, q % 9 * 3 + 1, none⟩ = some (.slice na zs.length nc))) (by kernel_rfl) (HCC.out _ HBQd.out) (fun hHeld => ?_)
            refine wpAnyH_take (i := 0) (v := ?val_0) rfl (by kernel_rfl) (by kernel_rfl) (by kernel_rfl) (fun _ _ _ h => h) ?hyal_0 hHeld ?hal_0
            case hyal_0 => refine Or.inl ⟨by rfl, ?_⟩; intro w hSw; obtain ⟨hh1, hh2, hh3⟩ := hSw; go_simp <;> with_reducible rfl
            simp only [List.getElem_toArray, List.getElem_cons_zero, Act.put, List.setIfInBounds_toArray, List.set_cons_zero, List.set_cons_succ]
            refine wpAnyH_take (i := 1) (v := ?val_1) rfl (by kernel_rfl) (by kernel_rfl) (by kernel_rfl) (fun _ _ _ h => h) ?hyal_1 hHeld ?hal_1
            case hyal_1 => refine Or.inl ⟨by rfl, ?_⟩; intro w hSw; obtain ⟨hh1, hh2, hh3⟩ := hSw; go_simp <;> with_reducible rfl
            try simp only [List.getElem_toArray, List.getElem_cons_succ, List.getElem_cons_zero, Act.put, List.setIfInBounds_toArray, List.set_cons_zero, List.set_cons_succ]
            refine wpAnyH_take (i := 2) (v := ?val_2) rfl (by kernel_rfl) (by kernel_rfl) (by kernel_rfl) (fun _ _ _ h => h) ?hyal_2 hHeld ?hal_2
            case hyal_2 => refine Or.inl ⟨by rfl, ?_⟩; intro w hSw; obtain ⟨hh1, hh2, hh3⟩ := hSw; go_simp <;> with_reducible rfl
            try simp only [List.getElem_toArray, List.getElem_cons_succ, List.getElem_cons_zero, Act.put, List.setIfInBounds_toArray, List.set_cons_zero, List.set_cons_succ]
            refine wpAnyH_take (i := 3) (v := ?val_3) rfl (by kernel_rfl) (by kernel_rfl) (by kernel_rfl) (fun _ _ _ h => h) ?hyal_3 hHeld ?hal_3
            case hyal_3 => refine Or.inl ⟨by rfl, ?_⟩; intro w hSw; obtain ⟨hh1, hh2, hh3⟩ := hSw; go_simp <;> with_reducible rfl
            try simp only [List.getElem_toArray, List.getElem_cons_succ, List.getElem_cons_zero, Act.put, List.setIfInBounds_toArray, List.set_cons_zero, List.set_cons_succ]
            refine wpAnyH_take (i := 4) (v := ?val_4) rfl (by kernel_rfl) (by kernel_rfl) (by kernel_rfl) (fun _ _ _ h => h) ?hyal_4 hHeld ?hal_4
            case hyal_4 => refine Or.inl ⟨by rfl, ?_⟩; intro w hSw; obtain ⟨hh1, hh2, hh3⟩ := hSw; go_simp <;> with_reducible rfl
            try simp only [List.getElem_toArray, List.getElem_cons_succ, List.getElem_cons_zero, Act.put, List.setIfInBounds_toArray, List.set_cons_zero, List.set_cons_succ]
            refine wpAnyH_take (i := 5) (v := ?val_5) rfl (by kernel_rfl) (by kernel_rfl) (by kernel_rfl) (fun _ _ _ h => h) ?hyal_5 hHeld ?hal_5
            case hyal_5 => refine Or.inl ⟨by rfl, ?_⟩; intro w hSw; obtain ⟨hh1, hh2, hh3⟩ := hSw; go_simp <;> with_reducible rfl
            try simp only [List.getElem_toArray, List.getElem_cons_succ, List.getElem_cons_zero, Act.put, List.setIfInBounds_toArray, List.set_cons_zero, List.set_cons_succ]
            refine wpAnyH_take (i := 6) (v := ?val_6) rfl (by kernel_rfl) (by kernel_rfl) (by kernel_rfl) (fun _ _ _ h => h) ?hyal_6 hHeld ?hal_6
            case hyal_6 => refine Or.inl ⟨by rfl, ?_⟩; intro w hSw; obtain ⟨hh1, hh2, hh3⟩ := hSw; go_simp <;> with_reducible rfl
            try simp only [List.getElem_toArray, List.getElem_cons_succ, List.getElem_cons_zero, Act.put, List.setIfInBounds_toArray, List.set_cons_zero, List.set_cons_succ]
            refine wpAnyH_take (i := 7) (v := ?val_7) rfl (by kernel_rfl) (by kernel_rfl) (by kernel_rfl) (fun _ _ _ h => h) ?hyal_7 hHeld ?hal_7
            case hyal_7 => refine Or.inl ⟨by rfl, ?_⟩; intro w hSw; obtain ⟨hh1, hh2, hh3⟩ := hSw; go_simp <;> with_reducible rfl
            try simp only [List.getElem_toArray, List.getElem_cons_succ, List.getElem_cons_zero, Act.put, List.setIfInBounds_toArray, List.set_cons_zero, List.set_cons_succ]
            refine wpAnyH_take (i := 8) (v := ?val_8) rfl (by kernel_rfl) (by kernel_rfl) (by kernel_rfl) (fun _ _ _ h => h) ?hyal_8 hHeld ?hal_8
            case hyal_8 => refine Or.inl ⟨by rfl, ?_⟩; intro w hSw; obtain ⟨hh1, hh2, hh3⟩ := hSw; go_simp <;> with_reducible rfl
            try simp only [List.getElem_toArray, List.getElem_cons_succ, List.getElem_cons_zero, Act.put, List.setIfInBounds_toArray, List.set_cons_zero, List.set_cons_succ]
            refine wpAnyH_take (i := 9) (v := ?val_9) rfl (by kernel_rfl) (by kernel_rfl) (by kernel_rfl) (fun _ _ _ h => h) ?hyal_9 hHeld ?hal_9
            case hyal_9 => refine Or.inl ⟨by rfl, ?_⟩; intro w hSw; obtain ⟨hh1, hh2, hh3⟩ := hSw; go_simp <;> with_reducible rfl
            try simp only [List.getElem_toArray, List.getElem_cons_succ, List.getElem_cons_zero, Act.put, List.setIfInBounds_toArray, List.set_cons_zero, List.set_cons_succ]
            refine wpAnyH_ready (rs := [10]) (by kernel_rfl) (by simp) ?_
            refine AllReadyH.cons rfl (fun K hK => ?_) AllReadyH.nil
            go_simp
            refine (same_true (xs := zs) (HLB.out.1.below HBQd.out) (HLB.out.2.1.below HBQd.out) (by omega) rfl rfl).mono ?_
            rintro e wq1 ⟨rfl, hbq⟩
            have HBq1 : Hid (Below WE2.heap.size WE2 wq1) := trans2 HBQd.out hbq
            refine hK.out _ _ (HCC.out _ HBq1.out) (fun hHeld => ?_)
            clear hK K hbq HBQd HBQ
            try simp only [List.getElem_toArray, List.getElem_cons_succ, List.getElem_cons_zero, Act.put, List.setIfInBounds_toArray, List.set_cons_zero, List.set_cons_succ]
            refine wpAnyH_take (i := 11) (v := ?val_11) rfl (by kernel_rfl) (by kernel_rfl) (by kernel_rfl) (fun _ _ _ h => h) ?hyal_11 hHeld ?hal_11
            case hyal_11 => refine Or.inl ⟨by rfl, ?_⟩; intro w hSw; obtain ⟨hh1, hh2, hh3⟩ := hSw; go_simp <;> with_reducible rfl
            try simp only [List.getElem_toArray, List.getElem_cons_succ, List.getElem_cons_zero, Act.put, List.setIfInBounds_toArray, List.set_cons_zero, List.set_cons_succ]
            refine wpAnyH_take (i := 12) (v := ?val_12) rfl (by kernel_rfl) (by kernel_rfl) (by kernel_rfl) (fun _ _ _ h => h) ?hyal_12 hHeld ?hal_12
            case hyal_12 => refine Or.inl ⟨by rfl, ?_⟩; intro w hSw; obtain ⟨hh1, hh2, hh3⟩ := hSw; go_simp <;> with_reducible rfl
            try simp only [List.getElem_toArray, List.getElem_cons_succ, List.getElem_cons_zero, Act.put, List.setIfInBounds_toArray, List.set_cons_zero, List.set_cons_succ]
            refine wpAnyH_take (i := 13) (v := ?val_13) rfl (by kernel_rfl) (by kernel_rfl) (by kernel_rfl) (fun _ _ _ h => h) ?hyal_13 hHeld ?hal_13
            case hyal_13 => refine Or.inl ⟨by rfl, ?_⟩; intro w hSw; obtain ⟨hh1, hh2, hh3⟩ := hSw; go_simp <;> with_reducible rfl
            try simp only [List.getElem_toArray, List.getElem_cons_succ, List.getElem_cons_zero, Act.put, List.setIfInBounds_toArray, List.set_cons_zero, List.set_cons_succ]
            refine wpAnyH_take (i := 14) (v := ?val_14) rfl (by kernel_rfl) (by kernel_rfl) (by kernel_rfl) (fun _ _ _ h => h) ?hyal_14 hHeld ?hal_14
            case hyal_14 => refine Or.inl ⟨by rfl, ?_⟩; intro w hSw; obtain ⟨hh1, hh2, hh3⟩ := hSw; go_simp <;> with_reducible rfl
            try simp only [List.getElem_toArray, List.getElem_cons_succ, List.getElem_cons_zero, Act.put, List.setIfInBounds_toArray, List.set_cons_zero, List.set_cons_succ]
            refine wpAnyH_take (i := 15) (v := ?val_15) rfl (by kernel_rfl) (by kernel_rfl) (by kernel_rfl) (fun _ _ _ h => h) ?hyal_15 hHeld ?hal_15
            case hyal_15 => refine Or.inl ⟨by rfl, ?_⟩; intro w hSw; obtain ⟨hh1, hh2, hh3⟩ := hSw; go_simp <;> with_reducible rfl
            try simp only [List.getElem_toArray, List.getElem_cons_succ, List.getElem_cons_zero, Act.put, List.setIfInBounds_toArray, List.set_cons_zero, List.set_cons_succ]
            refine wpAnyH_take (i := 16) (v := ?val_16) rfl (by kernel_rfl) (by kernel_rfl) (by kernel_rfl) (fun _ _ _ h => h) ?hyal_16 hHeld ?hal_16
            case hyal_16 => refine Or.inl ⟨by rfl, ?_⟩; intro w hSw; obtain ⟨hh1, hh2, hh3⟩ := hSw; go_simp <;> with_reducible rfl
            try simp only [List.getElem_toArray, List.getElem_cons_succ, List.getElem_cons_zero, Act.put, List.setIfInBounds_toArray, List.set_cons_zero, List.set_cons_succ]
            refine wpAnyH_take (i := 17) (v := ?val_17) rfl (by kernel_rfl) (by kernel_rfl) (by kernel_rfl) (fun _ _ _ h => h) ?hyal_17 hHeld ?hal_17
            case hyal_17 => refine Or.inl ⟨by rfl, ?_⟩; intro w hSw; obtain ⟨hh1, hh2, hh3⟩ := hSw; go_simp <;> with_reducible rfl
            try simp only [List.getElem_toArray, List.getElem_cons_succ, List.getElem_cons_zero, Act.put, List.setIfInBounds_toArray, List.set_cons_zero, List.set_cons_succ]
            refine wpAnyH_take (i := 18) (v := ?val_18) rfl (by kernel_rfl) (by kernel_rfl) (by kernel_rfl) (fun _ _ _ h => h) ?hyal_18 hHeld ?hal_18
            case hyal_18 => refine Or.inl ⟨by rfl, ?_⟩; intro w hSw; obtain ⟨hh1, hh2, hh3⟩ := hSw; go_simp <;> with_reducible rfl
            try simp only [List.getElem_toArray, List.getElem_cons_succ, List.getElem_cons_zero, Act.put, List.setIfInBounds_toArray, List.set_cons_zero, List.set_cons_succ]
            refine wpAnyH_take (i := 19) (v := ?val_19) rfl (by kernel_rfl) (by kernel_rfl) (by kernel_rfl) (fun _ _ _ h => h) ?hyal_19 hHeld ?hal_19
            case hyal_19 => refine Or.inl ⟨by rfl, ?_⟩; intro w hSw; obtain ⟨hh1, hh2, hh3⟩ := hSw; go_simp <;> with_reducible rfl
            try simp only [List.getElem_toArray, List.getElem_cons_succ, List.getElem_cons_zero, Act.put, List.setIfInBounds_toArray, List.set_cons_zero, List.set_cons_succ]
            refine wpAnyH_take (i := 20) (v := ?val_20) rfl (by kernel_rfl) (by kernel_rfl) (by kernel_rfl) (fun _ _ _ h => h) ?hyal_20 hHeld ?hal_20
            case hyal_20 => refine Or.inl ⟨by rfl, ?_⟩; intro w hSw; obtain ⟨hh1, hh2, hh3⟩ := hSw; go_simp <;> with_reducible rfl
            try simp only [List.getElem_toArray, List.getElem_cons_succ, List.getElem_cons_zero, Act.put, List.setIfInBounds_toArray, List.set_cons_zero, List.set_cons_succ]
            refine wpAnyH_take (i := 21) (v := ?val_21) rfl (by kernel_rfl) (by kernel_rfl) (by kernel_rfl) (fun _ _ _ h => h) ?hyal_21 hHeld ?hal_21
            case hyal_21 => refine Or.inl ⟨by rfl, ?_⟩; intro w hSw; obtain ⟨hh1, hh2, hh3⟩ := hSw; go_simp <;> with_reducible rfl
            try simp only [List.getElem_toArray, List.getElem_cons_succ, List.getElem_cons_zero, Act.put, List.setIfInBounds_toArray, List.set_cons_zero, List.set_cons_succ]
            refine wpAnyH_take (i := 22) (v := ?val_22) rfl (by kernel_rfl) (by kernel_rfl) (by kernel_rfl) (fun _ _ _ h => h) ?hyal_22 hHeld ?hal_22
            case hyal_22 => refine Or.inl ⟨by rfl, ?_⟩; intro w hSw; obtain ⟨hh1, hh2, hh3⟩ := hSw; go_simp <;> with_reducible rfl
            try simp only [List.getElem_toArray, List.getElem_cons_succ, List.getElem_cons_zero, Act.put, List.setIfInBounds_toArray, List.set_cons_zero, List.set_cons_succ]
            refine wpAnyH_take (i := 23) (v := ?val_23) rfl (by kernel_rfl) (by kernel_rfl) (by kernel_rfl) (fun _ _ _ h => h) ?hyal_23 hHeld ?hal_23
            case hyal_23 => refine Or.inl ⟨by rfl, ?_⟩; intro w hSw; obtain ⟨hh1, hh2, hh3⟩ := hSw; go_simp <;> with_reducible rfl
            try simp only [List.getElem_toArray, List.getElem_cons_succ, List.getElem_cons_zero, Act.put, List.setIfInBounds_toArray, List.set_cons_zero, List.set_cons_succ]
            refine wpAnyH_ready (rs := [24]) (by kernel_rfl) (by simp) ?_
            refine AllReadyH.cons rfl (fun K hK => ?_) AllReadyH.nil
            go_simp
            refine (same_true (xs := zs) (HLB.out.2.1.below HBq1.out) (HLB.out.2.2.below HBq1.out) (by omega) rfl rfl).mono ?_
            rintro e wq2 ⟨rfl, hbq⟩
            have HBq2 : Hid (Below WE2.heap.size WE2 wq2) := trans2 HBq1.out hbq
            refine hK.out _ _ (HCC.out _ HBq2.out) (fun hHeld => ?_)
            clear hK K hbq HBq1
            try simp only [List.getElem_toArray, List.getElem_cons_succ, List.getElem_cons_zero, Act.put, List.setIfInBounds_toArray, List.set_cons_zero, List.set_cons_succ]
            refine wpAnyH_take (i := 25) (v := ?val_25) rfl (by kernel_rfl) (by kernel_rfl) (by kernel_rfl) (fun _ _ _ h => h) ?hyal_25 hHeld ?hal_25
            case hyal_25 => refine Or.inl ⟨by rfl, ?_⟩; intro w hSw; obtain ⟨hh1, hh2, hh3⟩ := hSw; go_simp <;> with_reducible rfl
            try simp only [List.getElem_toArray, List.getElem_cons_succ, List.getElem_cons_zero, Act.put, List.setIfInBounds_toArray, List.set_cons_zero, List.set_cons_succ]
            refine wpAnyH_take (i := 26) (v := ?val_26) rfl (by kernel_rfl) (by kernel_rfl) (by kernel_rfl) (fun _ _ _ h => h) ?hyal_26 hHeld ?hal_26
            case hyal_26 => refine Or.inl ⟨by rfl, ?_⟩; intro w hSw; obtain ⟨hh1, hh2, hh3⟩ := hSw; go_simp <;> with_reducible rfl
            try simp only [List.getElem_toArray, List.getElem_cons_succ, List.getElem_cons_zero, Act.put, List.setIfInBounds_toArray, List.set_cons_zero, List.set_cons_succ]
            refine wpAnyH_done (by kernel_rfl) ?_ _
            go_wp2
            go_roundw
            case rel => exact ⟨q + 1, by go_num, by omega, HBq2⟩
            case measure => simp [intOf]; omega
          · obtain rfl : q = es.length := by omega
            clear hlt hq
            go_wp2_with fail
            have hbkw : Bk wr bg es (fun _ => .slice none 0 0) := HBK3.out.fr (Fr.of_below HBQ.out (fun _ => False)) (fun e => e)
            have hall : ∀ (j : Nat) (e : En), es[j]? = some e → (∃ zs : List Int, zs.length = e.2.1 ∧ wr.ownsRow 0 5 1 e.1 e.2.1 (bv zs)) ∧ e.2.1 ≤ 100000 := fun j e he => by
              obtain ⟨x1, x2, x3, _⟩ := HKB3.out.each j e he
              have hl := HCL.out (j % 9)
              rw [← x1, ← x2] at hl
              exact ⟨⟨e.2.2.2, x2.symm, owns_fr (owns_low x3 (Nat.zero_le _)) (Fr.of_below HBQ.out (fun _ => False)) (fun _ _ e => e)⟩, by omega⟩
            refine (stained_0 bg bcap es _ wr hbkw HKB3.out.apart hall (by omega) hbc).mono ?_
            rintro e ws1 ⟨rfl, gv1, hbk1, hfr1, hls1⟩
            have HBK4 : Hid (Bk ws1 bg es gv1) := hbk1
            have HLS4 : Hid (∀ (j : Nat) (e : En), es[j]? = some e → (∃ zs : List Int, zs.length = e.2.1 ∧ ws1.ownsRow 0 5 1 e.1 e.2.1 (bv zs)) ∧ e.2.1 ≤ 100000) := fun j e he => ⟨hls1 j e he, (hall j e he).2⟩
            have HFR4 : Hid (Fr (fun b => b = bg ∨ LB es b) WE2 ws1) := (Fr.of_below HBQ.out (fun b => b = bg ∨ LB es b)).trans hfr1 (fun b hb => .inl hb)
            clear hbkw hall hbk1 hfr1 hls1 HBQ
            go_wp2_with fail
            refine (stained_1 bg bcap es gv1 ws1 HBK4.out HKB3.out.apart HLS4.out (by omega) hbc).mono ?_
            rintro e ws2 ⟨rfl, gv2, hbk2, hfr2, _⟩
            have HBK5 : Hid (Bk ws2 bg es gv2) := hbk2
            have HFR5 : Hid (Fr (fun b => b = bg ∨ LB es b) WE2 ws2) := HFR4.out.trans hfr2 (fun b hb => .inl hb)
            have HB5 : Hid (Below w.heap.size w ws2) := HBE3.out.trans (HFR5.out.below _ HBE3.out.size (fun b hb => by
              rcases hb with e | ⟨d, hd, hk⟩
              · rw [e]; exact HBW.out
              · obtain ⟨j, hj⟩ := List.getElem?_of_mem hd
                exact (owns_kind (HKB3.out.each j d hj).2.2.1 b hk).2.1))
            have HWAS : Hid (∀ (j : Nat) (e : En), es[j]? = some e → ws2.ownsRow 0 5 1 e.2.2.1 (cont (j % 9)).length (bv (cont (j % 9)))) := fun j e he => by
              obtain ⟨x1, x2, _, x4⟩ := HKB3.out.each j e he
              rw [x1] at x2 x4
              rw [x2] at x4
              refine owns_fr (owns_low x4 (Nat.zero_le _)) HFR5.out (fun b hb hs => ?_)
              rcases hs with hs | ⟨d, hd, hk⟩
              · exact HBK3.out.ne x4 (by rw [← hs]; exact hb)
              · obtain ⟨i, hi⟩ := List.getElem?_of_mem hd
                exact (HKB3.out.ap i j d e hi he).2 b hk hb
            clear hbk2 hfr2 HBK4 HLS4 HFR4
            go_wp2_with fail
            refine Calls.mono (HNUM.out ws2) ?_
            rintro e x1 ⟨f1, g1, d1, rfl, ho1, hb1⟩
            have HO1 : Hid (Bys x1 f1 NZ) := by obtain ⟨_, _, hv, hb, _⟩ := row_is ho1; simp only [Value.slice.injEq, true_and] at hv; rw [hv.1]; exact hb
            have HX1 : Hid (Below ws2.heap.size ws2 x1) := hb1
            clear ho1 hb1
            go_wp2_with fail
            refine Calls.mono (HTXT.out x1) ?_
            rintro e x2 ⟨f2, g2, d2, rfl, ho2, hb2⟩
            have HO2 : Hid (Bys x2 f2 TL) := by obtain ⟨_, _, hv, hb, _⟩ := row_is ho2; simp only [Value.slice.injEq, true_and] at hv; rw [hv.1]; exact hb
            have HO1b : Hid (Bys x2 f1 NZ) := HO1.out.below hb2
            have HX2 : Hid (Below ws2.heap.size ws2 x2) := trans2 HX1.out hb2
            clear ho2 hb2 HX1 HO1
            go_wp2_with fail
            refine Calls.mono (HFRB.out x2 (HX.out.below (trans2 HB5.out HX2.out))) ?_
            rintro e x3 ⟨f3, g3, rfl, ho3, hb3⟩
            obtain ⟨_, _, hv3, hby3, _, hl3, hm3⟩ := row_is ho3
            simp only [Value.slice.injEq, true_and] at hv3
            obtain ⟨rfl, rfl⟩ := hv3
            have HO3 : Hid (Bys x3 f3 FB) := hby3
            have HO1c : Hid (Bys x3 f1 NZ) := HO1b.out.below hb3
            have HO2c : Hid (Bys x3 f2 TL) := HO2.out.below hb3
            have HX3 : Hid (Below ws2.heap.size ws2 x3) := trans2 HX2.out hb3
            clear ho3 hb3 hby3 HX2 HO1b HO2
            go_wp2_with fail
            refine Calls.mono (HUNF.out f3 g3 x3 HO3.out hl3 hm3) ?_
            rintro e x4 ⟨f4, g4, rfl, ho4, hb4⟩
            have HO4 : Hid (Bys x4 f4 body) := by obtain ⟨_, _, hv, hb, _⟩ := row_is ho4; simp only [Value.slice.injEq, true_and] at hv; rw [hv.1]; exact hb
            have HO1d : Hid (Bys x4 f1 NZ) := HO1c.out.below hb4
            have HO2d : Hid (Bys x4 f2 TL) := HO2c.out.below hb4
            have HO3d : Hid (Bys x4 f3 FB) := HO3.out.below hb4
            have HX4 : Hid (Below ws2.heap.size ws2 x4) := trans2 HX3.out hb4
            clear ho4 hb4 HX3 HO1c HO2c HO3 hl3 hm3
            have he18 := HEP.out.1
            obtain ⟨e0, he0⟩ : ∃ e, es[0]? = some e := ⟨es[0], List.getElem?_eq_getElem (by omega)⟩
            obtain ⟨e1, he1⟩ : ∃ e, es[1]? = some e := ⟨es[1], List.getElem?_eq_getElem (by omega)⟩
            obtain ⟨e2, he2⟩ : ∃ e, es[2]? = some e := ⟨es[2], List.getElem?_eq_getElem (by omega)⟩
            have r0 := HWAS.out 0 e0 he0
            have r1 := HWAS.out 1 e1 he1
            have r2 := HWAS.out 2 e2 he2
            rw [show cont (0 % 9) = NZ from HC3.out.1] at r0
            rw [show cont (1 % 9) = TL from HC3.out.2.1] at r1
            rw [show cont (2 % 9) = FB from HC3.out.2.2] at r2
            obtain ⟨p0, q0, hv0, hy0, _⟩ := row_is r0
            obtain ⟨p1, q1, hv1, hy1, _⟩ := row_is r1
            obtain ⟨p2, q2, hv2, hy2, _⟩ := row_is r2
            have hbg5 := HBK5.out.lt
            have k0 : ws2.cell? ⟨bg, 1, none⟩ = some (.slice p0 NZ.length q0) := by rw [← hv0]; exact (HBK5.out.at he0).2.1
            have k1 : ws2.cell? ⟨bg, 4, none⟩ = some (.slice p1 TL.length q1) := by rw [← hv1]; exact (HBK5.out.at he1).2.1
            have k2 : ws2.cell? ⟨bg, 7, none⟩ = some (.slice p2 FB.length q2) := by rw [← hv2]; exact (HBK5.out.at he2).2.1
            have HCW : Hid (∀ W, Below ws2.heap.size ws2 W → W.cell? ⟨bg, 1, none⟩ = some (.slice p0 NZ.length q0) ∧ W.cell? ⟨bg, 4, none⟩ = some (.slice p1 TL.length q1) ∧ W.cell? ⟨bg, 7, none⟩ = some (.slice p2 FB.length q2)) := fun W h => ⟨(h.cell (p := ⟨bg, 1, none⟩) hbg5).trans k0, (h.cell (p := ⟨bg, 4, none⟩) hbg5).trans k1, (h.cell (p := ⟨bg, 7, none⟩) hbg5).trans k2⟩
            have HYW : Hid (Bys ws2 p0 NZ ∧ Bys ws2 p1 TL ∧ Bys ws2 p2 FB) := ⟨hy0, hy1, hy2⟩
            have hi0 : (0 : Int) < (es.length : Int) := by omega
            have hi1 : (1 : Int) < (es.length : Int) := by omega
            have hi2 : (2 : Int) < (es.length : Int) := by omega
            obtain ⟨m0, m1, m2⟩ := HCW.out x4 HX4.out
            have hNZ9 := HNZl.out
            have hTL9 := HTLl.out
            clear he0 he1 he2 r0 r1 r2 hv0 hv1 hv2 hy0 hy1 hy2 k0 k1 k2 hbg5 HWAS he18
            go_wp2_with fail
            refine (same_true (xs := NZ) HO1d.out (HYW.out.1.below HX4.out) (by omega) rfl rfl).mono ?_
            rintro e x5 ⟨rfl, hb5⟩
            have HX5 : Hid (Below ws2.heap.size ws2 x5) := trans2 HX4.out hb5
            have HO2e : Hid (Bys x5 f2 TL) := HO2d.out.below hb5
            have HO3e : Hid (Bys x5 f3 FB) := HO3d.out.below hb5
            have HO4e : Hid (Bys x5 f4 body) := HO4.out.below hb5
            clear m0 m1 m2 hb5 HO1d HO2d HO3d HO4 HX4
            obtain ⟨m0, m1, m2⟩ := HCW.out x5 HX5.out
            go_wp2_with fail
            refine (same_true (xs := TL) HO2e.out (HYW.out.2.1.below HX5.out) (by omega) rfl rfl).mono ?_
            rintro e x6 ⟨rfl, hb6⟩
            have HX6 : Hid (Below ws2.heap.size ws2 x6) := trans2 HX5.out hb6
            have HO3f : Hid (Bys x6 f3 FB) := HO3e.out.below hb6
            have HO4f : Hid (Bys x6 f4 body) := HO4e.out.below hb6
            clear m0 m1 m2 hb6 HO2e HO3e HO4e HX5
            obtain ⟨m0, m1, m2⟩ := HCW.out x6 HX6.out
            go_wp2_with fail
            refine (same_true (xs := FB) HO3f.out (HYW.out.2.2.below HX6.out) (by omega) rfl rfl).mono ?_
            rintro e x7 ⟨rfl, hb7⟩
            have HX7 : Hid (Below ws2.heap.size ws2 x7) := trans2 HX6.out hb7
            have HO4g : Hid (Bys x7 f4 body) := HO4f.out.below hb7
            clear m0 m1 m2 hb7 HO3f HO4f HX6
            go_wp2_with fail
            refine (same_true (xs := body) HO4g.out (HX.out.below (trans2 HB5.out HX7.out)) (by omega) rfl rfl).mono ?_
            rintro e x8 ⟨rfl, hb8⟩
            have HX8 : Hid (Below ws2.heap.size ws2 x8) := trans2 HX7.out hb8
            clear hb8
            go_wp2_with fail
            go_ret
            exact ⟨rfl, trans2 HB5.out HX8.out⟩
      · clear hc
        go_wp2_with fail
        obtain ⟨WE2, hWE2⟩ : ∃ W2, W2 = WE := ⟨_, rfl⟩
        have HBE0 : Hid (Below WE2.heap.size WE2 WE) := by rw [hWE2]; exact Below.refl _ _
        have HBK3 : Hid (Bk WE2 bg es (fun _ => .slice none 0 0)) := by rw [hWE2]; exact HBK.out
        have HKB3 : Hid (Kb w cont es (.slice (some ⟨bg, 0, none⟩) es.length bcap) WE2) := by rw [hWE2]; exact HKB2.out
        have HBE3 : Hid (Below w.heap.size w WE2) := by rw [hWE2]; exact HBE.out
        clear hWE2 HBK HKB2 HBE HKR
        go_loopw [30] (fun i wr => ∃ q : Nat, i = .int .i64 q ∧ q ≤ es.length ∧ Hid (Below WE2.heap.size WE2 wr)) (fun i _ => es.length - (intOf i).toNat)
        case atStart => exact ⟨0, rfl, Nat.zero_le _, HBE0⟩
        case round =>
          clear HBE0
          obtain ⟨q, rfl, hq, HBQ⟩ := hrel
          by_cases hlt : q < es.length
          · obtain ⟨e, he⟩ : ∃ e, es[q]? = some e := ⟨es[q], List.getElem?_eq_getElem hlt⟩
            have hq9l : q % 9 < es.length := by have := HEP.out; omega
            obtain ⟨e9, he9⟩ : ∃ e, es[q % 9]? = some e := ⟨es[q % 9], List.getElem?_eq_getElem hq9l⟩
            obtain ⟨zs, hzs⟩ : ∃ zs, zs = cont (q % 9) := ⟨_, rfl⟩
            have hzl : zs.length ≤ 30000 := by rw [hzs]; exact HCL.out _
            obtain ⟨x1, x2, x3, x4⟩ := HKB3.out.each q e he
            obtain ⟨y1, y2, _, y4⟩ := HKB3.out.each (q % 9) e9 he9
            rw [← hzs] at x1
            rw [Nat.mod_mod, ← hzs] at y1
            rw [x1] at x2 x3 x4
            rw [y1] at y2 y4
            rw [x2] at x3 x4
            rw [y2] at y4
            obtain ⟨la, lc, hlv, hlb, _⟩ := row_is x3
            obtain ⟨wa, wc, hwv, hwb, _⟩ := row_is x4
            obtain ⟨na, nc, hnv, hnb, _⟩ := row_is y4
            obtain ⟨hc0, hc1, _⟩ := HBK3.out.at he
            obtain ⟨_, hd1, _⟩ := HBK3.out.at he9
            rw [hlv] at hc0
            rw [hwv] at hc1
            rw [hnv] at hd1
            have hbgl := HBK3.out.lt
            have HCC : Hid (∀ W, Below WE2.heap.size WE2 W → W.cell? ⟨bg, q * 3, none⟩ = some (.slice la zs.length lc) ∧ W.cell? ⟨bg, q * 3 + 1, none⟩ = some (.slice wa zs.length wc) ∧ W.cell? ⟨bg, q % 9 * 3 + 1, none⟩ = some (.slice na zs.length nc)) := fun W h => ⟨(h.cell (p := ⟨bg, q * 3, none⟩) hbgl).trans hc0, (h.cell (p := ⟨bg, q * 3 + 1, none⟩) hbgl).trans hc1, (h.cell (p := ⟨bg, q % 9 * 3 + 1, none⟩) hbgl).trans hd1⟩
            have HLB : Hid (Bys WE2 la zs ∧ Bys WE2 wa zs ∧ Bys WE2 na zs) := ⟨hlb, hwb, hnb⟩
            have hlt' : (q : Int) < (es.length : Int) := by omega
            have hq9' : (q : Int).tmod 9 < (es.length : Int) := by rw [Int.tmod_eq_emod_of_nonneg (by omega)]; omega
            have hq90 : (0 : Int) ≤ (q : Int).tmod 9 := by rw [Int.tmod_eq_emod_of_nonneg (by omega)]; omega
            have hto : ((q : Int).tmod 9).toNat = q % 9 := by rw [Int.tmod_eq_emod_of_nonneg (by omega)]; omega
            have HBQd : Hid (Below WE2.heap.size WE2 wr.drew) := HBQ.out.drew
            clear he he9 hzs x1 x2 x3 x4 y1 y2 y4 hlv hwv hnv hlb hwb hnb hc0 hc1 hd1 hbgl
            go_wp2_with fail
            refine wp_region_held_drew (S := (fun w' => w'.cell? ⟨bg, q * 3, none⟩ = some (.slice la zs.length lc) ∧ w'.cell? ⟨bg, q * 3 + 1, none⟩ = some (.slice wa zs.length wc) ∧ w'.cell? ⟨bg, q % 9 * 3 + 1, none⟩ = some (.slice na zs.length nc))) (by kernel_rfl) (HCC.out _ HBQd.out) (fun hHeld => ?_)
            refine wpAnyH_take (i := 0) (v := ?vbl_0) rfl (by kernel_rfl) (by kernel_rfl) (by kernel_rfl) (fun _ _ _ h => h) ?hybl_0 hHeld ?hbl_0
            case hybl_0 => refine Or.inl ⟨by rfl, ?_⟩; intro w hSw; obtain ⟨hh1, hh2, hh3⟩ := hSw; go_simp <;> with_reducible rfl
            simp only [List.getElem_toArray, List.getElem_cons_zero, Act.put, List.setIfInBounds_toArray, List.set_cons_zero, List.set_cons_succ]
            refine wpAnyH_take (i := 1) (v := ?vbl_1) rfl (by kernel_rfl) (by kernel_rfl) (by kernel_rfl) (fun _ _ _ h => h) ?hybl_1 hHeld ?hbl_1
            case hybl_1 => refine Or.inl ⟨by rfl, ?_⟩; intro w hSw; obtain ⟨hh1, hh2, hh3⟩ := hSw; go_simp <;> with_reducible rfl
            try simp only [List.getElem_toArray, List.getElem_cons_succ, List.getElem_cons_zero, Act.put, List.setIfInBounds_toArray, List.set_cons_zero, List.set_cons_succ]
            refine wpAnyH_take (i := 2) (v := ?vbl_2) rfl (by kernel_rfl) (by kernel_rfl) (by kernel_rfl) (fun _ _ _ h => h) ?hybl_2 hHeld ?hbl_2
            case hybl_2 => refine Or.inl ⟨by rfl, ?_⟩; intro w hSw; obtain ⟨hh1, hh2, hh3⟩ := hSw; go_simp <;> with_reducible rfl
            try simp only [List.getElem_toArray, List.getElem_cons_succ, List.getElem_cons_zero, Act.put, List.setIfInBounds_toArray, List.set_cons_zero, List.set_cons_succ]
            refine wpAnyH_take (i := 3) (v := ?vbl_3) rfl (by kernel_rfl) (by kernel_rfl) (by kernel_rfl) (fun _ _ _ h => h) ?hybl_3 hHeld ?hbl_3
            case hybl_3 => refine Or.inl ⟨by rfl, ?_⟩; intro w hSw; obtain ⟨hh1, hh2, hh3⟩ := hSw; go_simp <;> with_reducible rfl
            try simp only [List.getElem_toArray, List.getElem_cons_succ, List.getElem_cons_zero, Act.put, List.setIfInBounds_toArray, List.set_cons_zero, List.set_cons_succ]
            refine wpAnyH_take (i := 4) (v := ?vbl_4) rfl (by kernel_rfl) (by kernel_rfl) (by kernel_rfl) (fun _ _ _ h => h) ?hybl_4 hHeld ?hbl_4
            case hybl_4 => refine Or.inl ⟨by rfl, ?_⟩; intro w hSw; obtain ⟨hh1, hh2, hh3⟩ := hSw; go_simp <;> with_reducible rfl
            try simp only [List.getElem_toArray, List.getElem_cons_succ, List.getElem_cons_zero, Act.put, List.setIfInBounds_toArray, List.set_cons_zero, List.set_cons_succ]
            refine wpAnyH_take (i := 5) (v := ?vbl_5) rfl (by kernel_rfl) (by kernel_rfl) (by kernel_rfl) (fun _ _ _ h => h) ?hybl_5 hHeld ?hbl_5
            case hybl_5 => refine Or.inl ⟨by rfl, ?_⟩; intro w hSw; obtain ⟨hh1, hh2, hh3⟩ := hSw; go_simp <;> with_reducible rfl
            try simp only [List.getElem_toArray, List.getElem_cons_succ, List.getElem_cons_zero, Act.put, List.setIfInBounds_toArray, List.set_cons_zero, List.set_cons_succ]
            refine wpAnyH_take (i := 6) (v := ?vbl_6) rfl (by kernel_rfl) (by kernel_rfl) (by kernel_rfl) (fun _ _ _ h => h) ?hybl_6 hHeld ?hbl_6
            case hybl_6 => refine Or.inl ⟨by rfl, ?_⟩; intro w hSw; obtain ⟨hh1, hh2, hh3⟩ := hSw; go_simp <;> with_reducible rfl
            try simp only [List.getElem_toArray, List.getElem_cons_succ, List.getElem_cons_zero, Act.put, List.setIfInBounds_toArray, List.set_cons_zero, List.set_cons_succ]
            refine wpAnyH_take (i := 7) (v := ?vbl_7) rfl (by kernel_rfl) (by kernel_rfl) (by kernel_rfl) (fun _ _ _ h => h) ?hybl_7 hHeld ?hbl_7
            case hybl_7 => refine Or.inl ⟨by rfl, ?_⟩; intro w hSw; obtain ⟨hh1, hh2, hh3⟩ := hSw; go_simp <;> with_reducible rfl
            try simp only [List.getElem_toArray, List.getElem_cons_succ, List.getElem_cons_zero, Act.put, List.setIfInBounds_toArray, List.set_cons_zero, List.set_cons_succ]
            refine wpAnyH_take (i := 8) (v := ?vbl_8) rfl (by kernel_rfl) (by kernel_rfl) (by kernel_rfl) (fun _ _ _ h => h) ?hybl_8 hHeld ?hbl_8
            case hybl_8 => refine Or.inl ⟨by rfl, ?_⟩; intro w hSw; obtain ⟨hh1, hh2, hh3⟩ := hSw; go_simp <;> with_reducible rfl
            try simp only [List.getElem_toArray, List.getElem_cons_succ, List.getElem_cons_zero, Act.put, List.setIfInBounds_toArray, List.set_cons_zero, List.set_cons_succ]
            refine wpAnyH_take (i := 9) (v := ?vbl_9) rfl (by kernel_rfl) (by kernel_rfl) (by kernel_rfl) (fun _ _ _ h => h) ?hybl_9 hHeld ?hbl_9
            case hybl_9 => refine Or.inl ⟨by rfl, ?_⟩; intro w hSw; obtain ⟨hh1, hh2, hh3⟩ := hSw; go_simp <;> with_reducible rfl
            try simp only [List.getElem_toArray, List.getElem_cons_succ, List.getElem_cons_zero, Act.put, List.setIfInBounds_toArray, List.set_cons_zero, List.set_cons_succ]
            refine wpAnyH_ready (rs := [10]) (by kernel_rfl) (by simp) ?_
            refine AllReadyH.cons rfl (fun K hK => ?_) AllReadyH.nil
            go_simp
            refine (same_true (xs := zs) (HLB.out.1.below HBQd.out) (HLB.out.2.1.below HBQd.out) (by omega) rfl rfl).mono ?_
            rintro e wq1 ⟨rfl, hbq⟩
            have HBq1 : Hid (Below WE2.heap.size WE2 wq1) := trans2 HBQd.out hbq
            refine hK.out _ _ (HCC.out _ HBq1.out) (fun hHeld => ?_)
            clear hK K hbq HBQd HBQ
            try simp only [List.getElem_toArray, List.getElem_cons_succ, List.getElem_cons_zero, Act.put, List.setIfInBounds_toArray, List.set_cons_zero, List.set_cons_succ]
            refine wpAnyH_take (i := 11) (v := ?vbl_11) rfl (by kernel_rfl) (by kernel_rfl) (by kernel_rfl) (fun _ _ _ h => h) ?hybl_11 hHeld ?hbl_11
            case hybl_11 => refine Or.inl ⟨by rfl, ?_⟩; intro w hSw; obtain ⟨hh1, hh2, hh3⟩ := hSw; go_simp <;> with_reducible rfl
            try simp only [List.getElem_toArray, List.getElem_cons_succ, List.getElem_cons_zero, Act.put, List.setIfInBounds_toArray, List.set_cons_zero, List.set_cons_succ]
            refine wpAnyH_take (i := 12) (v := ?vbl_12) rfl (by kernel_rfl) (by kernel_rfl) (by kernel_rfl) (fun _ _ _ h => h) ?hybl_12 hHeld ?hbl_12
            case hybl_12 => refine Or.inl ⟨by rfl, ?_⟩; intro w hSw; obtain ⟨hh1, hh2, hh3⟩ := hSw; go_simp <;> with_reducible rfl
            try simp only [List.getElem_toArray, List.getElem_cons_succ, List.getElem_cons_zero, Act.put, List.setIfInBounds_toArray, List.set_cons_zero, List.set_cons_succ]
            refine wpAnyH_take (i := 13) (v := ?vbl_13) rfl (by kernel_rfl) (by kernel_rfl) (by kernel_rfl) (fun _ _ _ h => h) ?hybl_13 hHeld ?hbl_13
            case hybl_13 => refine Or.inl ⟨by rfl, ?_⟩; intro w hSw; obtain ⟨hh1, hh2, hh3⟩ := hSw; go_simp <;> with_reducible rfl
            try simp only [List.getElem_toArray, List.getElem_cons_succ, List.getElem_cons_zero, Act.put, List.setIfInBounds_toArray, List.set_cons_zero, List.set_cons_succ]
            refine wpAnyH_take (i := 14) (v := ?vbl_14) rfl (by kernel_rfl) (by kernel_rfl) (by kernel_rfl) (fun _ _ _ h => h) ?hybl_14 hHeld ?hbl_14
            case hybl_14 => refine Or.inl ⟨by rfl, ?_⟩; intro w hSw; obtain ⟨hh1, hh2, hh3⟩ := hSw; go_simp <;> with_reducible rfl
            try simp only [List.getElem_toArray, List.getElem_cons_succ, List.getElem_cons_zero, Act.put, List.setIfInBounds_toArray, List.set_cons_zero, List.set_cons_succ]
            refine wpAnyH_take (i := 15) (v := ?vbl_15) rfl (by kernel_rfl) (by kernel_rfl) (by kernel_rfl) (fun _ _ _ h => h) ?hybl_15 hHeld ?hbl_15
            case hybl_15 => refine Or.inl ⟨by rfl, ?_⟩; intro w hSw; obtain ⟨hh1, hh2, hh3⟩ := hSw; go_simp <;> with_reducible rfl
            try simp only [List.getElem_toArray, List.getElem_cons_succ, List.getElem_cons_zero, Act.put, List.setIfInBounds_toArray, List.set_cons_zero, List.set_cons_succ]
            refine wpAnyH_take (i := 16) (v := ?vbl_16) rfl (by kernel_rfl) (by kernel_rfl) (by kernel_rfl) (fun _ _ _ h => h) ?hybl_16 hHeld ?hbl_16
            case hybl_16 => refine Or.inl ⟨by rfl, ?_⟩; intro w hSw; obtain ⟨hh1, hh2, hh3⟩ := hSw; go_simp <;> with_reducible rfl
            try simp only [List.getElem_toArray, List.getElem_cons_succ, List.getElem_cons_zero, Act.put, List.setIfInBounds_toArray, List.set_cons_zero, List.set_cons_succ]
            refine wpAnyH_take (i := 17) (v := ?vbl_17) rfl (by kernel_rfl) (by kernel_rfl) (by kernel_rfl) (fun _ _ _ h => h) ?hybl_17 hHeld ?hbl_17
            case hybl_17 => refine Or.inl ⟨by rfl, ?_⟩; intro w hSw; obtain ⟨hh1, hh2, hh3⟩ := hSw; go_simp <;> with_reducible rfl
            try simp only [List.getElem_toArray, List.getElem_cons_succ, List.getElem_cons_zero, Act.put, List.setIfInBounds_toArray, List.set_cons_zero, List.set_cons_succ]
            refine wpAnyH_take (i := 18) (v := ?vbl_18) rfl (by kernel_rfl) (by kernel_rfl) (by kernel_rfl) (fun _ _ _ h => h) ?hybl_18 hHeld ?hbl_18
            case hybl_18 => refine Or.inl ⟨by rfl, ?_⟩; intro w hSw; obtain ⟨hh1, hh2, hh3⟩ := hSw; go_simp <;> with_reducible rfl
            try simp only [List.getElem_toArray, List.getElem_cons_succ, List.getElem_cons_zero, Act.put, List.setIfInBounds_toArray, List.set_cons_zero, List.set_cons_succ]
            refine wpAnyH_take (i := 19) (v := ?vbl_19) rfl (by kernel_rfl) (by kernel_rfl) (by kernel_rfl) (fun _ _ _ h => h) ?hybl_19 hHeld ?hbl_19
            case hybl_19 => refine Or.inl ⟨by rfl, ?_⟩; intro w hSw; obtain ⟨hh1, hh2, hh3⟩ := hSw; go_simp <;> with_reducible rfl
            try simp only [List.getElem_toArray, List.getElem_cons_succ, List.getElem_cons_zero, Act.put, List.setIfInBounds_toArray, List.set_cons_zero, List.set_cons_succ]
            refine wpAnyH_take (i := 20) (v := ?vbl_20) rfl (by kernel_rfl) (by kernel_rfl) (by kernel_rfl) (fun _ _ _ h => h) ?hybl_20 hHeld ?hbl_20
            case hybl_20 => refine Or.inl ⟨by rfl, ?_⟩; intro w hSw; obtain ⟨hh1, hh2, hh3⟩ := hSw; go_simp <;> with_reducible rfl
            try simp only [List.getElem_toArray, List.getElem_cons_succ, List.getElem_cons_zero, Act.put, List.setIfInBounds_toArray, List.set_cons_zero, List.set_cons_succ]
            refine wpAnyH_take (i := 21) (v := ?vbl_21) rfl (by kernel_rfl) (by kernel_rfl) (by kernel_rfl) (fun _ _ _ h => h) ?hybl_21 hHeld ?hbl_21
            case hybl_21 => refine Or.inl ⟨by rfl, ?_⟩; intro w hSw; obtain ⟨hh1, hh2, hh3⟩ := hSw; go_simp <;> with_reducible rfl
            try simp only [List.getElem_toArray, List.getElem_cons_succ, List.getElem_cons_zero, Act.put, List.setIfInBounds_toArray, List.set_cons_zero, List.set_cons_succ]
            refine wpAnyH_take (i := 22) (v := ?vbl_22) rfl (by kernel_rfl) (by kernel_rfl) (by kernel_rfl) (fun _ _ _ h => h) ?hybl_22 hHeld ?hbl_22
            case hybl_22 => refine Or.inl ⟨by rfl, ?_⟩; intro w hSw; obtain ⟨hh1, hh2, hh3⟩ := hSw; go_simp <;> with_reducible rfl
            try simp only [List.getElem_toArray, List.getElem_cons_succ, List.getElem_cons_zero, Act.put, List.setIfInBounds_toArray, List.set_cons_zero, List.set_cons_succ]
            refine wpAnyH_take (i := 23) (v := ?vbl_23) rfl (by kernel_rfl) (by kernel_rfl) (by kernel_rfl) (fun _ _ _ h => h) ?hybl_23 hHeld ?hbl_23
            case hybl_23 => refine Or.inl ⟨by rfl, ?_⟩; intro w hSw; obtain ⟨hh1, hh2, hh3⟩ := hSw; go_simp <;> with_reducible rfl
            try simp only [List.getElem_toArray, List.getElem_cons_succ, List.getElem_cons_zero, Act.put, List.setIfInBounds_toArray, List.set_cons_zero, List.set_cons_succ]
            refine wpAnyH_ready (rs := [24]) (by kernel_rfl) (by simp) ?_
            refine AllReadyH.cons rfl (fun K hK => ?_) AllReadyH.nil
            go_simp
            refine (same_true (xs := zs) (HLB.out.2.1.below HBq1.out) (HLB.out.2.2.below HBq1.out) (by omega) rfl rfl).mono ?_
            rintro e wq2 ⟨rfl, hbq⟩
            have HBq2 : Hid (Below WE2.heap.size WE2 wq2) := trans2 HBq1.out hbq
            refine hK.out _ _ (HCC.out _ HBq2.out) (fun hHeld => ?_)
            clear hK K hbq HBq1
            try simp only [List.getElem_toArray, List.getElem_cons_succ, List.getElem_cons_zero, Act.put, List.setIfInBounds_toArray, List.set_cons_zero, List.set_cons_succ]
            refine wpAnyH_take (i := 25) (v := ?vbl_25) rfl (by kernel_rfl) (by kernel_rfl) (by kernel_rfl) (fun _ _ _ h => h) ?hybl_25 hHeld ?hbl_25
            case hybl_25 => refine Or.inl ⟨by rfl, ?_⟩; intro w hSw; obtain ⟨hh1, hh2, hh3⟩ := hSw; go_simp <;> with_reducible rfl
            try simp only [List.getElem_toArray, List.getElem_cons_succ, List.getElem_cons_zero, Act.put, List.setIfInBounds_toArray, List.set_cons_zero, List.set_cons_succ]
            refine wpAnyH_take (i := 26) (v := ?vbl_26) rfl (by kernel_rfl) (by kernel_rfl) (by kernel_rfl) (fun _ _ _ h => h) ?hybl_26 hHeld ?hbl_26
            case hybl_26 => refine Or.inl ⟨by rfl, ?_⟩; intro w hSw; obtain ⟨hh1, hh2, hh3⟩ := hSw; go_simp <;> with_reducible rfl
            try simp only [List.getElem_toArray, List.getElem_cons_succ, List.getElem_cons_zero, Act.put, List.setIfInBounds_toArray, List.set_cons_zero, List.set_cons_succ]
            refine wpAnyH_done (by kernel_rfl) ?_ _
            go_wp2
            go_roundw
            case rel => exact ⟨q + 1, by go_num, by omega, HBq2⟩
            case measure => simp [intOf]; omega
          · obtain rfl : q = es.length := by omega
            clear hlt hq
            go_wp2_with fail
            have hbkw : Bk wr bg es (fun _ => .slice none 0 0) := HBK3.out.fr (Fr.of_below HBQ.out (fun _ => False)) (fun e => e)
            have hall : ∀ (j : Nat) (e : En), es[j]? = some e → (∃ zs : List Int, zs.length = e.2.1 ∧ wr.ownsRow 0 5 1 e.1 e.2.1 (bv zs)) ∧ e.2.1 ≤ 100000 := fun j e he => by
              obtain ⟨x1, x2, x3, _⟩ := HKB3.out.each j e he
              have hl := HCL.out (j % 9)
              rw [← x1, ← x2] at hl
              exact ⟨⟨e.2.2.2, x2.symm, owns_fr (owns_low x3 (Nat.zero_le _)) (Fr.of_below HBQ.out (fun _ => False)) (fun _ _ e => e)⟩, by omega⟩
            refine (stained_0 bg bcap es _ wr hbkw HKB3.out.apart hall (by omega) hbc).mono ?_
            rintro e ws1 ⟨rfl, gv1, hbk1, hfr1, hls1⟩
            have HBK4 : Hid (Bk ws1 bg es gv1) := hbk1
            have HLS4 : Hid (∀ (j : Nat) (e : En), es[j]? = some e → (∃ zs : List Int, zs.length = e.2.1 ∧ ws1.ownsRow 0 5 1 e.1 e.2.1 (bv zs)) ∧ e.2.1 ≤ 100000) := fun j e he => ⟨hls1 j e he, (hall j e he).2⟩
            have HFR4 : Hid (Fr (fun b => b = bg ∨ LB es b) WE2 ws1) := (Fr.of_below HBQ.out (fun b => b = bg ∨ LB es b)).trans hfr1 (fun b hb => .inl hb)
            clear hbkw hall hbk1 hfr1 hls1 HBQ
            go_wp2_with fail
            refine (stained_1 bg bcap es gv1 ws1 HBK4.out HKB3.out.apart HLS4.out (by omega) hbc).mono ?_
            rintro e ws2 ⟨rfl, gv2, hbk2, hfr2, _⟩
            have HBK5 : Hid (Bk ws2 bg es gv2) := hbk2
            have HFR5 : Hid (Fr (fun b => b = bg ∨ LB es b) WE2 ws2) := HFR4.out.trans hfr2 (fun b hb => .inl hb)
            have HB5 : Hid (Below w.heap.size w ws2) := HBE3.out.trans (HFR5.out.below _ HBE3.out.size (fun b hb => by
              rcases hb with e | ⟨d, hd, hk⟩
              · rw [e]; exact HBW.out
              · obtain ⟨j, hj⟩ := List.getElem?_of_mem hd
                exact (owns_kind (HKB3.out.each j d hj).2.2.1 b hk).2.1))
            have HWAS : Hid (∀ (j : Nat) (e : En), es[j]? = some e → ws2.ownsRow 0 5 1 e.2.2.1 (cont (j % 9)).length (bv (cont (j % 9)))) := fun j e he => by
              obtain ⟨x1, x2, _, x4⟩ := HKB3.out.each j e he
              rw [x1] at x2 x4
              rw [x2] at x4
              refine owns_fr (owns_low x4 (Nat.zero_le _)) HFR5.out (fun b hb hs => ?_)
              rcases hs with hs | ⟨d, hd, hk⟩
              · exact HBK3.out.ne x4 (by rw [← hs]; exact hb)
              · obtain ⟨i, hi⟩ := List.getElem?_of_mem hd
                exact (HKB3.out.ap i j d e hi he).2 b hk hb
            clear hbk2 hfr2 HBK4 HLS4 HFR4
            go_wp2_with fail
            refine Calls.mono (HNUM.out ws2) ?_
            rintro e x1 ⟨f1, g1, d1, rfl, ho1, hb1⟩
            have HO1 : Hid (Bys x1 f1 NZ) := by obtain ⟨_, _, hv, hb, _⟩ := row_is ho1; simp only [Value.slice.injEq, true_and] at hv; rw [hv.1]; exact hb
            have HX1 : Hid (Below ws2.heap.size ws2 x1) := hb1
            clear ho1 hb1
            go_wp2_with fail
            refine Calls.mono (HTXT.out x1) ?_
            rintro e x2 ⟨f2, g2, d2, rfl, ho2, hb2⟩
            have HO2 : Hid (Bys x2 f2 TL) := by obtain ⟨_, _, hv, hb, _⟩ := row_is ho2; simp only [Value.slice.injEq, true_and] at hv; rw [hv.1]; exact hb
            have HO1b : Hid (Bys x2 f1 NZ) := HO1.out.below hb2
            have HX2 : Hid (Below ws2.heap.size ws2 x2) := trans2 HX1.out hb2
            clear ho2 hb2 HX1 HO1
            go_wp2_with fail
            refine Calls.mono (HFRB.out x2 (HX.out.below (trans2 HB5.out HX2.out))) ?_
            rintro e x3 ⟨f3, g3, rfl, ho3, hb3⟩
            obtain ⟨_, _, hv3, hby3, _, hl3, hm3⟩ := row_is ho3
            simp only [Value.slice.injEq, true_and] at hv3
            obtain ⟨rfl, rfl⟩ := hv3
            have HO3 : Hid (Bys x3 f3 FB) := hby3
            have HO1c : Hid (Bys x3 f1 NZ) := HO1b.out.below hb3
            have HO2c : Hid (Bys x3 f2 TL) := HO2.out.below hb3
            have HX3 : Hid (Below ws2.heap.size ws2 x3) := trans2 HX2.out hb3
            clear ho3 hb3 hby3 HX2 HO1b HO2
            go_wp2_with fail
            refine Calls.mono (HUNF.out f3 g3 x3 HO3.out hl3 hm3) ?_
            rintro e x4 ⟨f4, g4, rfl, ho4, hb4⟩
            have HO4 : Hid (Bys x4 f4 body) := by obtain ⟨_, _, hv, hb, _⟩ := row_is ho4; simp only [Value.slice.injEq, true_and] at hv; rw [hv.1]; exact hb
            have HO1d : Hid (Bys x4 f1 NZ) := HO1c.out.below hb4
            have HO2d : Hid (Bys x4 f2 TL) := HO2c.out.below hb4
            have HO3d : Hid (Bys x4 f3 FB) := HO3.out.below hb4
            have HX4 : Hid (Below ws2.heap.size ws2 x4) := trans2 HX3.out hb4
            clear ho4 hb4 HX3 HO1c HO2c HO3 hl3 hm3
            have he18 := HEP.out.1
            obtain ⟨e0, he0⟩ : ∃ e, es[0]? = some e := ⟨es[0], List.getElem?_eq_getElem (by omega)⟩
            obtain ⟨e1, he1⟩ : ∃ e, es[1]? = some e := ⟨es[1], List.getElem?_eq_getElem (by omega)⟩
            obtain ⟨e2, he2⟩ : ∃ e, es[2]? = some e := ⟨es[2], List.getElem?_eq_getElem (by omega)⟩
            have r0 := HWAS.out 0 e0 he0
            have r1 := HWAS.out 1 e1 he1
            have r2 := HWAS.out 2 e2 he2
            rw [show cont (0 % 9) = NZ from HC3.out.1] at r0
            rw [show cont (1 % 9) = TL from HC3.out.2.1] at r1
            rw [show cont (2 % 9) = FB from HC3.out.2.2] at r2
            obtain ⟨p0, q0, hv0, hy0, _⟩ := row_is r0
            obtain ⟨p1, q1, hv1, hy1, _⟩ := row_is r1
            obtain ⟨p2, q2, hv2, hy2, _⟩ := row_is r2
            have hbg5 := HBK5.out.lt
            have k0 : ws2.cell? ⟨bg, 1, none⟩ = some (.slice p0 NZ.length q0) := by rw [← hv0]; exact (HBK5.out.at he0).2.1
            have k1 : ws2.cell? ⟨bg, 4, none⟩ = some (.slice p1 TL.length q1) := by rw [← hv1]; exact (HBK5.out.at he1).2.1
            have k2 : ws2.cell? ⟨bg, 7, none⟩ = some (.slice p2 FB.length q2) := by rw [← hv2]; exact (HBK5.out.at he2).2.1
            have HCW : Hid (∀ W, Below ws2.heap.size ws2 W → W.cell? ⟨bg, 1, none⟩ = some (.slice p0 NZ.length q0) ∧ W.cell? ⟨bg, 4, none⟩ = some (.slice p1 TL.length q1) ∧ W.cell? ⟨bg, 7, none⟩ = some (.slice p2 FB.length q2)) := fun W h => ⟨(h.cell (p := ⟨bg, 1, none⟩) hbg5).trans k0, (h.cell (p := ⟨bg, 4, none⟩) hbg5).trans k1, (h.cell (p := ⟨bg, 7, none⟩) hbg5).trans k2⟩
            have HYW : Hid (Bys ws2 p0 NZ ∧ Bys ws2 p1 TL ∧ Bys ws2 p2 FB) := ⟨hy0, hy1, hy2⟩
            have hi0 : (0 : Int) < (es.length : Int) := by omega
            have hi1 : (1 : Int) < (es.length : Int) := by omega
            have hi2 : (2 : Int) < (es.length : Int) := by omega
            obtain ⟨m0, m1, m2⟩ := HCW.out x4 HX4.out
            have hNZ9 := HNZl.out
            have hTL9 := HTLl.out
            clear he0 he1 he2 r0 r1 r2 hv0 hv1 hv2 hy0 hy1 hy2 k0 k1 k2 hbg5 HWAS he18
            go_wp2_with fail
            refine (same_true (xs := NZ) HO1d.out (HYW.out.1.below HX4.out) (by omega) rfl rfl).mono ?_
            rintro e x5 ⟨rfl, hb5⟩
            have HX5 : Hid (Below ws2.heap.size ws2 x5) := trans2 HX4.out hb5
            have HO2e : Hid (Bys x5 f2 TL) := HO2d.out.below hb5
            have HO3e : Hid (Bys x5 f3 FB) := HO3d.out.below hb5
            have HO4e : Hid (Bys x5 f4 body) := HO4.out.below hb5
            clear m0 m1 m2 hb5 HO1d HO2d HO3d HO4 HX4
            obtain ⟨m0, m1, m2⟩ := HCW.out x5 HX5.out
            go_wp2_with fail
            refine (same_true (xs := TL) HO2e.out (HYW.out.2.1.below HX5.out) (by omega) rfl rfl).mono ?_
            rintro e x6 ⟨rfl, hb6⟩
            have HX6 : Hid (Below ws2.heap.size ws2 x6) := trans2 HX5.out hb6
            have HO3f : Hid (Bys x6 f3 FB) := HO3e.out.below hb6
            have HO4f : Hid (Bys x6 f4 body) := HO4e.out.below hb6
            clear m0 m1 m2 hb6 HO2e HO3e HO4e HX5
            obtain ⟨m0, m1, m2⟩ := HCW.out x6 HX6.out
            go_wp2_with fail
            refine (same_true (xs := FB) HO3f.out (HYW.out.2.2.below HX6.out) (by omega) rfl rfl).mono ?_
            rintro e x7 ⟨rfl, hb7⟩
            have HX7 : Hid (Below ws2.heap.size ws2 x7) := trans2 HX6.out hb7
            have HO4g : Hid (Bys x7 f4 body) := HO4f.out.below hb7
            clear m0 m1 m2 hb7 HO3f HO4f HX6
            go_wp2_with fail
            refine (same_true (xs := body) HO4g.out (HX.out.below (trans2 HB5.out HX7.out)) (by omega) rfl rfl).mono ?_
            rintro e x8 ⟨rfl, hb8⟩
            have HX8 : Hid (Below ws2.heap.size ws2 x8) := trans2 HX7.out hb8
            clear hb8
            go_wp2_with fail
            go_ret
            exact ⟨rfl, trans2 HB5.out HX8.out⟩
end Go.Proofs.Ytdjibjmhjofedac
