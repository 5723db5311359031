/-
  heraldref5: Encode.
-/
import Derived.Test.YtkmiemjjedbnaaaDoorERef
import Derived.Test.YtkmiemjjedbnaaaDoorEEnc
import Derived.Test.YtkmiemjjedbnaaaDoorCRefCheck
namespace Go.Proofs.YtkmiemjjedbnaaaDoor
open Go.RowKit Classical
set_option linter.unusedVariables false
set_option linter.unusedSimpArgs false

/-- What stands while the document writes. -/
structure RS (w0 w : World) (A : Array Value) (v : Value) (xs : List Int) : Prop where
  row : w.ownsRow w0.heap.size 5 1 v xs.length (bv xs)
  pa : w.heap[w0.heap.size]? = some (.cells A 24 (0, 0))
  low : Below w0.heap.size w0 w
theorem keepR {w w' : World} {base b : Nat} {v : Value} {xs : List Int} {cs : Array Value} {t : TypeId} (h : w.ownsRow base 5 1 v xs.length (bv xs)) (hc : Chg w w' (fun k => v.ownBlock = some k)) (hb : w.heap[b]? = some (.cells cs t (0, 0))) (ht : t ≠ 5) : w'.heap[b]? = some (.cells cs t (0, 0)) := by
  rw [hc.block b (lt_of_blk hb) (fun e => ?_)]
  · exact hb
  · obtain ⟨cur, hk⟩ := owns_kind h e
    rw [hb] at hk
    injection hk with hk
    injection hk with _ h2 _
    exact ht h2
theorem RS.put {w0 w w' : World} {A : Array Value} {v v' : Value} {xs xs' : List Int} (h : RS w0 w A v xs) (h1 : w'.ownsRow w0.heap.size 5 1 v' xs'.length (bv xs')) (h2 : Chg w w' (fun k => v.ownBlock = some k)) : RS w0 w' A v' xs' :=
  ⟨h1, keepR h.row h2 h.pa (by decide), h.low.trans (h2.below h.low.size (fun j _ hj => (h.row.lt j hj).1))⟩
set_option maxHeartbeats 3200000 in
set_option maxRecDepth 100000 in
theorem refEncode_any (st : Int) (p : ByteArray) (k : Int) (a : Option Addr) (c n : Nat) (l : List SeenT) (w : World) (hn : l.length = n) (hs : Ss w a l) (hok : ∀ s ∈ l, s.p.size ≤ maxLen) (hl : n ≤ maxLen) :
    Calls Tryd.prog 20 #[.agg (shA st p k a n c)] w fun e w' => ∃ a' c' zs, e = .returned (.tuple #[.slice a' zs.length c', .int .i64 (chk st p k l)]) ∧ (Good st p k l → zs = shotL st p k l) ∧ (¬ Good st p k l → zs = []) ∧ Bys w' a' zs ∧ Below w.heap.size w w' := by
  have HB0 : Hid (Below w.heap.size w (w.alloc (.cells (shA st p k a n c) 24))) := (Below.refl _ _).alloc (Nat.le_refl _) _
  have HA0 : Hid ((w.alloc (.cells (shA st p k a n c) 24)).heap[w.heap.size]? = some (.cells (shA st p k a n c) 24 (0, 0))) := heap_alloc_new _ _
  have HCH : Hid (Calls Tryd.prog 23 #[.agg (shA st p k a n c)] (w.alloc (.cells (shA st p k a n c) 24)) fun e w' => e = .returned (.int .i64 (chk st p k l)) ∧ Below (w.alloc (.cells (shA st p k a n c) 24)).heap.size (w.alloc (.cells (shA st p k a n c) 24)) w') := by
    rw [chk_eq]
    subst hn
    exact refCheck_any st p k a c l _ (hs.below HB0.out) hok hl
  have HS : Hid (Ss w a l) := hs
  have HN : Hid (l.length = n) := hn
  clear hok hl hs hn
  by_cases hgd : Good st p k l
  · rw [chk_good hgd] at HCH ⊢
    have HGD : Hid (Good st p k l) := hgd
    have HOK : Hid (EOk st p k l) := eok_of_good hgd
    obtain ⟨sn, rfl⟩ : ∃ sn : Nat, st = sn := ⟨st.toNat, by have := (eok_of_good hgd).st; omega⟩
    obtain ⟨kn, rfl⟩ : ∃ kn : Nat, k = kn := ⟨k.toNat, by have := (eok_of_good hgd).k; omega⟩
    have hn64 : n ≤ 64 := by rw [← HN.out]; exact HOK.out.len
    have hsn : sn ≤ 2147483647 := by have := HOK.out.st; omega
    have hkn : kn ≤ 2147483647 := by have := HOK.out.k; omega
    have hp : p.size ≤ 1000 := HOK.out.p
    clear hgd
    go_enter Tryd.func20, Tryd.ntmps20
    go_wp2_with fail
    refine Calls.mono HCH.out ?_
    rintro e w0 ⟨rfl, hb0⟩
    have H0 : Hid (RS w w0 (shA sn p kn a n c) (.slice none 0 0) []) := ⟨World.ownsRow_nil _ _ _ _, kept_block hb0 HA0.out, trans2 HB0.out hb0⟩
    obtain ⟨a0, a1, a2, a3⟩ := cells_4 H0.out.pa
    clear hb0
    go_wp2_with fail
    refine (rnum_any w.heap.size (.slice none 0 0) [] sn _ H0.out.row hsn (by simp) H0.out.low.size).mono ?_
    rintro e w1 ⟨v1, rfl, ho1, hb1⟩
    have H1 : Hid (RS w w1 (shA sn p kn a n c) v1 (numL sn)) := H0.out.put ho1 hb1
    clear ho1 hb1 a0 a1 a2 a3
    obtain ⟨a0, a1, a2, a3⟩ := cells_4 H1.out.pa
    go_wp2_with fail
    refine (rtxt_any w.heap.size v1 (numL sn) p _ H1.out.row hp (by have := num_le sn hsn; omega) H1.out.low.size).mono ?_
    rintro e w2 ⟨v2, rfl, ho2, hb2⟩
    have H2 : Hid (RS w w2 (shA sn p kn a n c) v2 (numL sn ++ textL p)) := H1.out.put ho2 hb2
    clear ho2 hb2 a0 a1 a2 a3
    obtain ⟨a0, a1, a2, a3⟩ := cells_4 H2.out.pa
    go_wp2_with fail
    refine (rnum_any w.heap.size v2 (numL sn ++ textL p) kn _ H2.out.row hkn (by have := num_le sn hsn; have := text_le p hp; rw [List.length_append]; omega) H2.out.low.size).mono ?_
    rintro e w3 ⟨v3, rfl, ho3, hb3⟩
    have H3 : Hid (RS w w3 (shA sn p kn a n c) v3 ((numL sn ++ textL p) ++ numL kn)) := H2.out.put ho3 hb3
    clear ho3 hb3 a0 a1 a2 a3
    obtain ⟨a0, a1, a2, a3⟩ := cells_4 H3.out.pa
    go_wp2_with fail
    refine (rnum_any w.heap.size v3 ((numL sn ++ textL p) ++ numL kn) n _ H3.out.row (by omega) (by have := num_le sn hsn; have := text_le p hp; have := num_le kn hkn; rw [List.length_append, List.length_append]; omega) H3.out.low.size).mono ?_
    rintro e w4 ⟨v4, rfl, ho4, hb4⟩
    obtain ⟨pre, hpre⟩ : ∃ pre, ((numL sn ++ textL p) ++ numL kn) ++ numL n = pre := ⟨_, rfl⟩
    have HPL : Hid (pre.length ≤ 1020) := by
      show _ ≤ _
      rw [← hpre]
      have := num_le sn hsn; have := text_le p hp; have := num_le kn hkn; have := num_le n (by omega)
      rw [List.length_append, List.length_append, List.length_append]; omega
    have HPR : Hid (pre ++ seensL l = shotL sn p kn l) := by
      show _ = _
      rw [← hpre]
      unfold shotL
      rw [Int.toNat_natCast, Int.toNat_natCast, HN.out]
      simp only [List.append_assoc]
    rw [hpre] at ho4
    have H4 : Hid (RS w w4 (shA sn p kn a n c) v4 pre) := H3.out.put ho4 hb4
    clear ho4 hb4 hpre a0 a1 a2 a3
    go_wp2_with fail
    go_loopw [4, 5] (fun v i wr => ∃ q : Nat, i = .int .i64 q ∧ q ≤ n ∧ Hid (RS w wr (shA sn p kn a n c) v (pre ++ seensL (l.take q)))) (fun _ i _ => n - (intOf i).toNat)
    case atStart => exact ⟨0, rfl, Nat.zero_le _, by show RS _ _ _ _ _; simpa [seensL] using H4.out⟩
    case round =>
      obtain ⟨q, rfl, hq, HW⟩ := hrel
      obtain ⟨a0, a1, a2, a3⟩ := cells_4 HW.out.pa
      by_cases hlt : q < n
      · have hlt' : (q : Int) < (n : Int) := by omega
        obtain ⟨x, hx⟩ : ∃ x, l[q]? = some x := ⟨l[q]'(by rw [HN.out]; exact hlt), List.getElem?_eq_getElem _⟩
        obtain ⟨b, o, rfl, hb, x0, x1, x2⟩ := (HS.out.below HW.out.low).at hx
        have HX : Hid (l[q]? = some x) := hx
        obtain ⟨e1, e2, e3, e4⟩ := HOK.out.each x (List.mem_of_getElem? hx)
        obtain ⟨xv, hxv⟩ : ∃ xv : Nat, x.v = xv := ⟨x.v.toNat, by omega⟩
        have HXV : Hid (x.v.toNat = xv) := by show _ = _; omega
        have HXW : Hid (x.v = xv) := hxv
        rw [hxv] at x2 e4
        have hxv4 : xv ≤ 2147483647 := by omega
        have HL : Hid ((seensL (l.take q)).length ≤ 64 * 2015) := by
          show _ ≤ _
          refine Nat.le_trans (seensL_le _ (fun s hs => HOK.out.each s (List.mem_of_mem_take hs))) ?_
          rw [List.length_take]
          have : min q l.length ≤ 64 := by omega
          exact Nat.mul_le_mul_right _ this
        clear hx hxv e3 e4
        go_wp2_with fail
        refine (rtxt_any w.heap.size u4 (pre ++ seensL (l.take q)) x.p _ HW.out.row e1 (by have := HPL.out; have := HL.out; rw [List.length_append]; omega) HW.out.low.size).mono ?_
        rintro e w5 ⟨v5, rfl, ho5, hb5⟩
        have H5 : Hid (RS w w5 (shA sn p kn (some ⟨b, o, none⟩) n c) v5 ((pre ++ seensL (l.take q)) ++ textL x.p)) := HW.out.put ho5 hb5
        clear ho5 hb5 x0 x1 x2 a0 a1 a2 a3
        obtain ⟨a0, a1, a2, a3⟩ := cells_4 H5.out.pa
        obtain ⟨b', o', hbo, hb', x0, x1, x2⟩ := (HS.out.below H5.out.low).at HX.out
        cases hbo
        rw [HXW.out] at x2
        go_wp2_with fail
        refine (rtxt_any w.heap.size v5 ((pre ++ seensL (l.take q)) ++ textL x.p) x.d _ H5.out.row e2 (by have := HPL.out; have := HL.out; have := text_le x.p e1; rw [List.length_append, List.length_append]; omega) H5.out.low.size).mono ?_
        rintro e w6 ⟨v6, rfl, ho6, hb6⟩
        have H6 : Hid (RS w w6 (shA sn p kn (some ⟨b, o, none⟩) n c) v6 (((pre ++ seensL (l.take q)) ++ textL x.p) ++ textL x.d)) := H5.out.put ho6 hb6
        clear ho6 hb6 x0 x1 x2 a0 a1 a2 a3
        obtain ⟨a0, a1, a2, a3⟩ := cells_4 H6.out.pa
        obtain ⟨b', o', hbo, hb', x0, x1, x2⟩ := (HS.out.below H6.out.low).at HX.out
        cases hbo
        rw [HXW.out] at x2
        go_wp2_with fail
        refine (rnum_any w.heap.size v6 (((pre ++ seensL (l.take q)) ++ textL x.p) ++ textL x.d) xv _ H6.out.row hxv4 (by have := HPL.out; have := HL.out; have := text_le x.p e1; have := text_le x.d e2; rw [List.length_append, List.length_append, List.length_append]; omega) H6.out.low.size).mono ?_
        rintro e w7 ⟨v7, rfl, ho7, hb7⟩
        have H7 : Hid (RS w w7 (shA sn p kn (some ⟨b, o, none⟩) n c) v7 (pre ++ seensL (l.take (q + 1)))) := by
          have := H6.out.put ho7 hb7
          show RS _ _ _ _ _
          rw [seensL_take HX.out]
          unfold seenL
          rw [HXV.out]
          simpa only [List.append_assoc] using this
        clear ho7 hb7 x0 x1 x2 a0 a1 a2 a3
        go_wp2_with fail
        go_roundw
        case rel => exact ⟨q + 1, by go_num, by omega, H7⟩
        case measure => simp [intOf]; omega
      · obtain rfl : q = n := by omega
        have hge : ¬ (q : Int) < (q : Int) := by omega
        have H9 : Hid (RS w wr (shA sn p kn a q c) u4 (shotL sn p kn l)) := by
          have := HW.out
          rw [← HN.out, List.take_length, HPR.out] at this
          rw [← HN.out]
          exact this
        obtain ⟨ra, rc, rfl, hby, _⟩ := bys_of_owns H9.out.row
        have HBY : Hid (Bys wr ra (shotL sn p kn l)) := hby
        clear hby
        go_wp2_with fail
        go_ret2
        exact ⟨ra, rc, shotL sn p kn l, rfl, fun _ => rfl, fun h => absurd HGD.out h, HBY.out, H9.out.low⟩
  · rw [chk_bad hgd] at HCH ⊢
    have HGD : Hid (¬ Good st p k l) := hgd
    clear hgd
    go_enter Tryd.func20, Tryd.ntmps20
    go_wp2_with fail
    refine Calls.mono HCH.out ?_
    rintro e w1 ⟨rfl, hb1⟩
    have HB1 : Hid (Below w.heap.size w w1) := trans2 HB0.out hb1
    clear hb1
    go_wp2_with fail
    go_ret2
    exact ⟨none, 0, [], rfl, fun h => absurd h HGD.out, fun _ => rfl, .inl rfl, HB1.out⟩
end Go.Proofs.YtkmiemjjedbnaaaDoor
