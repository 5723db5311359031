/-
  Frame in the program.
-/
import Derived.Test.YtdjibjmhjofedacWWord
import Derived.Test.YtdjibjmhjofedacWSum
import Derived.Test.YtdjibjmhjofedacWText
namespace Go.Proofs.Ytdjibjmhjofedac
open Go.RowKit

/-- The head of a frame; a frame up to its second sum; a frame. -/
def headL (n : Nat) : List Int := ([197, 58] ++ fourL n) ++ fourL (crc ([197, 58] ++ fourL n))
def frameL (body : List Int) : List Int := (headL body.length ++ body) ++ fourL (crc (headL body.length ++ body))
theorem mark_byt : Byt [197, 58] := by intro z hz; simp at hz; omega
theorem head_len (n : Nat) : (headL n).length = 10 := rfl
theorem head_byt {n : Nat} (h : n < 4294967296) : Byt (headL n) := by
  have h1 : Byt ([197, 58] ++ fourL n) := mark_byt.append (four_byt h)
  exact h1.append (four_byt (crc_lt h1))
theorem frame_len (body : List Int) : (frameL body).length = body.length + 14 := by
  unfold frameL
  rw [List.length_append, List.length_append, head_len, four_len]
  omega
theorem frame_byt {body : List Int} (h : Byt body) (hn : body.length < 4294967296) : Byt (frameL body) := by
  have h1 : Byt (headL body.length ++ body) := (head_byt hn).append h
  exact h1.append (four_byt (crc_lt h1))

/-- One piece: where it lies, its capacity, its bytes. -/
abbrev Pc := Option Addr × Nat × List Int
def Pc.val (p : Pc) : Value := .slice p.1 p.2.2.length p.2.1
def Pc.ok (w : World) (p : Pc) : Prop := Bys w p.1 p.2.2 ∧ Byt p.2.2 ∧ (p.1 = none → p.2.1 = 0)
/-- A list of pieces. -/
def Pcs (w : World) (a : Option Addr) (ps : List Pc) : Prop :=
  (ps = [] ∨ ∃ b o, a = some ⟨b, o, none⟩ ∧ b < w.heap.size ∧ ∀ (j : Nat) (p : Pc), ps[j]? = some p → w.cell? ⟨b, o + j, none⟩ = some p.val) ∧ ∀ p ∈ ps, p.ok w
theorem Pc.ok.below {w w' : World} {p : Pc} (h : p.ok w) (hb : Below w.heap.size w w') : p.ok w' := ⟨h.1.below hb, h.2⟩
theorem Pcs.below {w w' : World} {a : Option Addr} {ps : List Pc} (h : Pcs w a ps) (hb : Below w.heap.size w w') : Pcs w' a ps := by
  refine ⟨h.1.imp id ?_, fun p hp => (h.2 p hp).below hb⟩
  rintro ⟨b, o, ha, hlt, hs⟩
  refine ⟨b, o, ha, Nat.lt_of_lt_of_le hlt hb.size, fun j x hx => ?_⟩
  rw [hb.cell (p := ⟨b, o + j, none⟩) hlt]
  exact hs j x hx
/-- The body that pieces make. -/
def bodyOf (ps : List Pc) : List Int := (ps.map fun p => p.2.2).flatten
theorem body_step {ps : List Pc} {k : Nat} {p : Pc} (h : ps[k]? = some p) : bodyOf (ps.take (k + 1)) = bodyOf (ps.take k) ++ p.2.2 := by
  unfold bodyOf
  rw [List.take_add_one, h, List.map_append, List.flatten_append]
  simp
theorem body_le (ps : List Pc) (k : Nat) : (bodyOf (ps.take k)).length ≤ (bodyOf ps).length := by
  have : bodyOf ps = bodyOf (ps.take k) ++ bodyOf (ps.drop k) := by
    unfold bodyOf
    rw [← List.flatten_append, ← List.map_append, List.take_append_drop]
  rw [this, List.length_append]
  omega
theorem body_byt {w : World} {a : Option Addr} {ps : List Pc} (h : Pcs w a ps) : Byt (bodyOf ps) := by
  intro z hz
  unfold bodyOf at hz
  rw [List.mem_flatten] at hz
  obtain ⟨l, hl, hzl⟩ := hz
  obtain ⟨p, hp, rfl⟩ := List.mem_map.1 hl
  exact (h.2 p hp).2.1 z hzl

set_option maxHeartbeats 3200000 in
set_option maxRecDepth 100000 in
theorem frame_some (b o c : Nat) (ps : List Pc) (w : World) (hs : Pcs w (some ⟨b, o, none⟩) ps) (hlt : b < w.heap.size) (hc : ∀ (j : Nat) (p : Pc), ps[j]? = some p → w.cell? ⟨b, o + j, none⟩ = some p.val) (hm : (bodyOf ps).length ≤ 262144) (hk : ps.length ≤ 1000000) :
    Calls Try.prog 9 #[.slice (some ⟨b, o, none⟩) ps.length c] w fun e w' => ∃ a' c', e = .returned (.tuple #[.slice a' (frameL (bodyOf ps)).length c', .int .i64 0]) ∧
      w'.ownsRow w.heap.size 5 1 (.slice a' (frameL (bodyOf ps)).length c') (frameL (bodyOf ps)).length (bv (frameL (bodyOf ps))) ∧ Below w.heap.size w w' := by
  obtain ⟨i0, hi, hz0, hz1, hz2⟩ := info_parts Try.info5
  have HP : Hid _ := hs
  have HC : Hid _ := hc
  have HLT : Hid _ := hlt
  have HM : Hid _ := hm
  clear hs hc hlt hm
  go_enter Try.func9, Try.ntmps9
  go_wp2
  go_loop [4, 12] (fun n i => ∃ k : Nat, n = .int .i64 (bodyOf (ps.take k)).length ∧ i = .int .i64 k ∧ k ≤ ps.length) (fun _ i => ps.length - (intOf i).toNat)
  case atStart => exact ⟨0, rfl, rfl, by omega⟩
  case round =>
    obtain ⟨k, rfl, rfl, hkk⟩ := hrel
    by_cases hlt : k < ps.length
    · obtain ⟨p, hp⟩ : ∃ p, ps[k]? = some p := ⟨ps[k], List.getElem?_eq_getElem hlt⟩
      have hc := HC.out k p hp
      have hst := body_step hp
      have hle := Nat.le_trans (body_le ps (k + 1)) HM.out
      rw [hst, List.length_append] at hle
      have hst' : (bodyOf (ps.take (k + 1))).length = (bodyOf (ps.take k)).length + p.2.2.length := by rw [hst, List.length_append]
      have HST : Hid _ := hst'
      obtain ⟨a1, c1, zs⟩ := p
      simp only at hle hst' HST
      unfold Pc.val at hc
      simp only at hc
      generalize (bodyOf (ps.take k)).length = N at hle hst' HST ⊢
      clear hp hst hst'
      go_wp2
      exact ⟨⟨k + 1, by rw [HST.out]; simp, by go_num, by omega⟩, by simp [intOf]; omega⟩
    · obtain rfl : k = ps.length := by omega
      rw [List.take_length]
      obtain ⟨body, hbody⟩ : ∃ body, bodyOf ps = body := ⟨_, rfl⟩
      have HBd : Hid _ := hbody
      have hN : body.length ≤ 262144 := by rw [← hbody]; exact HM.out
      have HY : Hid (Byt body) := by rw [← hbody]; exact body_byt HP.out
      rw [hbody]
      obtain ⟨T, hT⟩ : ∃ T, frameL body = T := ⟨_, rfl⟩
      have HT : Hid (frameL (bodyOf ps) = T) := by rw [hbody]; exact hT
      have HT' : Hid _ := hT
      clear hT
      clear hbody
      go_wp2_with (first
        | (at_make; refine wpList_make_own _ rfl _ _ 26 rfl w.heap.size 5 i0 (.int .u8 0) 1 Try.underlying26 hi hz0 hz1 _ _ _ (14 + body.length) rfl rfl (by omega) (by rw [hz2]; omega) (by unfold maxLen; omega) (Nat.le_refl _) ?_; intro w1 hown1 hgrow1
           have HO1 : Hid (w1.ownsRow w.heap.size 5 1 (.slice (some ⟨w.heap.size, 0, none⟩) 0 (14 + body.length)) 0 []) := hown1
           have HB1 : Hid (Below w.heap.size w w1) := (Below.refl _ _).grown hgrow1 (Nat.le_refl _) (fun k hk => by cases hk)
           clear hown1 hgrow1)
        | (at_builtin; refine Lib.wpList_append_own_string _ rfl _ _ 26 9 rfl w.heap.size 5 i0 Try.underlying26 Try.underlying9 hi hz0 hz1 hz2 _ 0 [] rfl HO1.out ⟨#[197, 58]⟩ rfl (by decide) (by decide) HB1.out.size ?_; intro v2 w2 hown2 hgrow2 _
           have HO2 : Hid (w2.ownsRow w.heap.size 5 1 v2 ([197, 58] : List Int).length (bv [197, 58])) := hown2
           have HB2 : Hid (Below w.heap.size w w2) := HB1.out.grown hgrow2 HB1.out.size (fun k hk => (World.ownsRow.lt HO1.out k hk).1)
           clear hown2 hgrow2)
        | fail)
      refine (appWord_any w.heap.size v2 [197, 58] body.length w2 HO2.out (by omega) (by decide) HB2.out.size).mono ?_
      rintro e w3 ⟨v3, rfl, ho3, hb3⟩
      have HB3 : Hid (Below w.heap.size w w3) := HB2.out.trans hb3
      have hy3 : Byt ([197, 58] ++ fourL body.length) := mark_byt.append (four_byt (by omega))
      have HY3 : Hid _ := hy3
      obtain ⟨a3, c3, rfl, hbys3, -⟩ := bys_of_owns ho3
      have HO3 : Hid _ := ho3
      have HX3 : Hid _ := hbys3
      clear ho3 hb3 hy3 HO1 HB1 HO2 HB2 hbys3
      go_wp2_with fail
      refine (sum_any a3 c3 ([197, 58] ++ fourL body.length) w3 HX3.out HY3.out (by simp [fourL, maxLen])).mono ?_
      rintro e w4 ⟨rfl, hb4⟩
      have HB4 : Hid (Below w.heap.size w w4) := trans2 HB3.out hb4
      have HO4 : Hid _ := owns_below HO3.out hb4
      clear hb4 HB3 HO3 HX3
      go_wp2_with fail
      refine (appWord_any w.heap.size _ ([197, 58] ++ fourL body.length) _ w4 HO4.out (crc_lt HY3.out) (by simp [fourL]) HB4.out.size).mono ?_
      rintro e w5 ⟨v5, rfl, ho5, hb5⟩
      have HB5 : Hid (Below w.heap.size w w5) := HB4.out.trans hb5
      have HO5 : Hid (w5.ownsRow w.heap.size 5 1 v5 (headL body.length).length (bv (headL body.length))) := ho5
      clear ho5 hb5 HB4 HO4
      go_wp2
      generalize Value.slice a3 _ c3 = u30
      generalize Value.int IntKind.i64 (crc (197 :: 58 :: fourL body.length) : Int) = u33
      go_loopw [7, 37] (fun u i wr => ∃ k : Nat, i = .int .i64 k ∧ k ≤ ps.length ∧ Hid (wr.ownsRow w.heap.size 5 1 u (headL body.length ++ bodyOf (ps.take k)).length (bv (headL body.length ++ bodyOf (ps.take k)))) ∧ Hid (Below w.heap.size w wr)) (fun _ i _ => ps.length - (intOf i).toNat)
      case atStart => exact ⟨0, rfl, by omega, by rw [List.take_zero, show bodyOf [] = [] by rfl, List.append_nil]; exact HO5.out, HB5.out⟩
      case round =>
        obtain ⟨k, rfl, hkk, HO, HB⟩ := hrel
        by_cases hlt : k < ps.length
        · obtain ⟨p, hp⟩ : ∃ p, ps[k]? = some p := ⟨ps[k], List.getElem?_eq_getElem hlt⟩
          have hc : wr.cell? ⟨b, o + k, none⟩ = some p.val := by rw [HB.out.cell (p := ⟨b, o + k, none⟩) HLT.out]; exact HC.out k p hp
          have hst := body_step hp
          have hle := Nat.le_trans (body_le ps (k + 1)) HM.out
          have hok := (HP.out.2 p (List.mem_of_getElem? hp)).below HB.out
          obtain ⟨a1, c1, zs⟩ := p
          unfold Pc.val at hc
          simp only at hc hst
          obtain ⟨hx1, -, hn1⟩ := hok
          simp only at hx1 hn1
          rw [hst] at hle
          have HST : Hid (headL body.length ++ bodyOf (ps.take (k + 1)) = (headL body.length ++ bodyOf (ps.take k)) ++ zs) := by show _ = _; rw [hst, List.append_assoc]
          have hlen : (headL body.length ++ bodyOf (ps.take k)).length + zs.length ≤ 300000 := by
            rw [List.length_append] at hle ⊢
            rw [head_len]
            omega
          generalize headL body.length ++ bodyOf (ps.take k) = D at HO HST hlen
          have HX1 : Hid _ := hx1
          clear hp hst hle hx1
          cases a1 with
          | none =>
            have hc0 := hn1 rfl
            subst hc0
            have hzs : zs = [] := by
              rcases HX1.out with h | ⟨b, o, h, _⟩
              · exact h
              · cases h
            subst hzs
            clear hn1 hlen
            simp only [List.length_nil] at hc
            go_wp2_with (first
              | (at_builtin; refine wpList_append_own_none rfl _ _ 26 rfl w.heap.size 5 i0 1 Try.underlying26 hi _ _ _ rfl HO.out rfl ?_)
              | fail)
            go_roundw
            case rel => exact ⟨k + 1, by go_num, by omega, by rw [HST.out, List.append_nil]; exact HO.out, HB.out⟩
            case measure => simp [intOf]; omega
          | some ad =>
            clear hn1
            go_wp2_with (first
              | (at_builtin; refine wpList_append_own _ rfl _ _ 26 rfl w.heap.size 5 i0 (.int .u8 0) 1 1 Try.underlying26 hi hz0 hz1 hz2 rfl (by decide) _ _ _ rfl HO.out ad zs.length c1 (bv zs) rfl (by rw [bv_len, Nat.mul_one]) (cells_at HX1.out) (bv_one _) (by unfold maxLen; omega) (by omega) HB.out.size ?_; intro v' w1 hown' hgrow _)
              | fail)
            have R1 : w1.ownsRow w.heap.size 5 1 v' (D ++ zs).length (bv (D ++ zs)) := by rw [List.length_append, bv_append]; exact hown'
            have R2 : Below w.heap.size w w1 := HB.out.grown hgrow HB.out.size (fun j hj => (World.ownsRow.lt HO.out j hj).1)
            go_roundw
            case rel => exact ⟨k + 1, by go_num, by omega, by rw [HST.out]; exact R1, R2⟩
            case measure => simp [intOf]; omega
        · obtain rfl : k = ps.length := by omega
          rw [List.take_length, HBd.out] at HO
          have hyD : Byt (headL body.length ++ body) := (head_byt (by omega)).append HY.out
          have HYD : Hid _ := hyD
          have hlD : (headL body.length ++ body).length ≤ 300000 := by rw [List.length_append, head_len]; omega
          have HTD : Hid ((headL body.length ++ body) ++ fourL (crc (headL body.length ++ body)) = T) := HT'.out
          generalize headL body.length ++ body = D at HO HYD hlD HTD
          obtain ⟨a6, c6, rfl, hbys6, -⟩ := bys_of_owns HO.out
          have HX6 : Hid _ := hbys6
          clear hyD hbys6
          go_wp2_with fail
          refine (sum_any a6 c6 D wr HX6.out HYD.out (by unfold maxLen; omega)).mono ?_
          rintro e w7 ⟨rfl, hb7⟩
          have HB7 : Hid (Below w.heap.size w w7) := trans2 HB.out hb7
          have HO7 : Hid _ := owns_below HO.out hb7
          clear hb7 HO HX6
          go_wp2_with fail
          refine (appWord_any w.heap.size _ D _ w7 HO7.out (crc_lt HYD.out) (by omega) HB7.out.size).mono ?_
          rintro e w8 ⟨v8, rfl, ho8, hb8⟩
          rw [HTD.out] at ho8
          have HB8 : Hid (Below w.heap.size w w8) := HB7.out.trans hb8
          obtain ⟨a8, c8, rfl, -⟩ := bys_of_owns ho8
          have HO8 : Hid _ := ho8
          clear ho8 hb8 HO7 HB7
          go_wp2
          go_ret2
          rw [HT.out]
          exact ⟨a8, c8, rfl, HO8.out, HB8.out⟩

set_option maxHeartbeats 3200000 in
set_option maxRecDepth 100000 in
theorem frame_none (a : Option Addr) (c : Nat) (w : World) :
    Calls Try.prog 9 #[.slice a 0 c] w fun e w' => ∃ a' c', e = .returned (.tuple #[.slice a' (frameL []).length c', .int .i64 0]) ∧
      w'.ownsRow w.heap.size 5 1 (.slice a' (frameL []).length c') (frameL []).length (bv (frameL [])) ∧ Below w.heap.size w w' := by
  obtain ⟨i0, hi, hz0, hz1, hz2⟩ := info_parts Try.info5
  obtain ⟨T, hT⟩ : ∃ T, frameL [] = T := ⟨_, rfl⟩
  have HT : Hid ((headL 0) ++ fourL (crc (headL 0)) = T) := by rw [← hT]; unfold frameL; rw [List.append_nil]; rfl
  rw [hT]
  clear hT
  go_enter Try.func9, Try.ntmps9
  go_wp2
  refine wp_loop_rounds 1 ?_
  rw [rounds_succ]
  go_wp2_with (first
    | (at_make; refine wpList_make_own _ rfl _ _ 26 rfl w.heap.size 5 i0 (.int .u8 0) 1 Try.underlying26 hi hz0 hz1 _ _ _ 14 rfl rfl (by omega) (by rw [hz2]; omega) (by unfold maxLen; omega) (Nat.le_refl _) ?_; intro w1 hown1 hgrow1
       have HO1 : Hid (w1.ownsRow w.heap.size 5 1 (.slice (some ⟨w.heap.size, 0, none⟩) 0 14) 0 []) := hown1
       have HB1 : Hid (Below w.heap.size w w1) := (Below.refl _ _).grown hgrow1 (Nat.le_refl _) (fun k hk => by cases hk)
       clear hown1 hgrow1)
    | (at_builtin; refine Lib.wpList_append_own_string _ rfl _ _ 26 9 rfl w.heap.size 5 i0 Try.underlying26 Try.underlying9 hi hz0 hz1 hz2 _ 0 [] rfl HO1.out ⟨#[197, 58]⟩ rfl (by decide) (by decide) HB1.out.size ?_; intro v2 w2 hown2 hgrow2 _
       have HO2 : Hid (w2.ownsRow w.heap.size 5 1 v2 ([197, 58] : List Int).length (bv [197, 58])) := hown2
       have HB2 : Hid (Below w.heap.size w w2) := HB1.out.grown hgrow2 HB1.out.size (fun k hk => (World.ownsRow.lt HO1.out k hk).1)
       clear hown2 hgrow2)
    | fail)
  refine (appWord_any w.heap.size v2 [197, 58] 0 w2 HO2.out (by omega) (by decide) HB2.out.size).mono ?_
  rintro e w3 ⟨v3, rfl, ho3, hb3⟩
  have HB3 : Hid (Below w.heap.size w w3) := HB2.out.trans hb3
  have hy3 : Byt ([197, 58] ++ fourL 0) := mark_byt.append (four_byt (by omega))
  have HY3 : Hid _ := hy3
  obtain ⟨a3, c3, rfl, hbys3, -⟩ := bys_of_owns ho3
  have HO3 : Hid _ := ho3
  have HX3 : Hid _ := hbys3
  clear ho3 hb3 hy3 HO1 HB1 HO2 HB2 hbys3
  go_wp2_with fail
  refine (sum_any a3 c3 ([197, 58] ++ fourL 0) w3 HX3.out HY3.out (by simp [fourL, maxLen])).mono ?_
  rintro e w4 ⟨rfl, hb4⟩
  have HB4 : Hid (Below w.heap.size w w4) := trans2 HB3.out hb4
  have HO4 : Hid _ := owns_below HO3.out hb4
  clear hb4 HB3 HO3 HX3
  go_wp2_with fail
  refine (appWord_any w.heap.size _ ([197, 58] ++ fourL 0) _ w4 HO4.out (crc_lt HY3.out) (by simp [fourL]) HB4.out.size).mono ?_
  rintro e w5 ⟨v5, rfl, ho5, hb5⟩
  have HB5 : Hid (Below w.heap.size w w5) := HB4.out.trans hb5
  have HO5 : Hid (w5.ownsRow w.heap.size 5 1 v5 (headL 0).length (bv (headL 0))) := ho5
  clear ho5 hb5 HB4 HO4
  go_wp2
  generalize Value.slice a3 _ c3 = u30
  generalize Value.int IntKind.i64 (crc (197 :: 58 :: fourL 0) : Int) = u33
  have hyD : Byt (headL 0) := head_byt (by omega)
  have HYD : Hid _ := hyD
  have hlD : (headL 0).length ≤ 300000 := by rw [head_len]; omega
  generalize headL 0 = D at HO5 HYD hlD HT
  obtain ⟨a6, c6, rfl, hbys6, -⟩ := bys_of_owns HO5.out
  have HX6 : Hid _ := hbys6
  clear hyD hbys6
  refine wp_loop_rounds 1 ?_
  rw [rounds_succ]
  go_wp2_with fail
  refine (sum_any a6 c6 D w5 HX6.out HYD.out (by unfold maxLen; omega)).mono ?_
  rintro e w7 ⟨rfl, hb7⟩
  have HB7 : Hid (Below w.heap.size w w7) := trans2 HB5.out hb7
  have HO7 : Hid _ := owns_below HO5.out hb7
  clear hb7 HO5 HX6
  go_wp2_with fail
  refine (appWord_any w.heap.size _ D _ w7 HO7.out (crc_lt HYD.out) (by omega) HB7.out.size).mono ?_
  rintro e w8 ⟨v8, rfl, ho8, hb8⟩
  rw [HT.out] at ho8
  have HB8 : Hid (Below w.heap.size w w8) := HB7.out.trans hb8
  obtain ⟨a8, c8, rfl, -⟩ := bys_of_owns ho8
  have HO8 : Hid _ := ho8
  clear ho8 hb8 HO7 HB7
  go_wp2
  go_ret2
  exact ⟨a8, c8, rfl, HO8.out, HB8.out⟩

/-- Frame of pieces that are not too long together. -/
theorem frame_any (a : Option Addr) (c : Nat) (ps : List Pc) (w : World) (hs : Pcs w a ps) (hm : (bodyOf ps).length ≤ 262144) (hk : ps.length ≤ 1000000) :
    Calls Try.prog 9 #[.slice a ps.length c] w fun e w' => ∃ a' c', e = .returned (.tuple #[.slice a' (frameL (bodyOf ps)).length c', .int .i64 0]) ∧
      w'.ownsRow w.heap.size 5 1 (.slice a' (frameL (bodyOf ps)).length c') (frameL (bodyOf ps)).length (bv (frameL (bodyOf ps))) ∧ Below w.heap.size w w' := by
  rcases hs.1 with rfl | ⟨b, o, rfl, hlt, hc⟩
  · exact frame_none a c w
  · exact frame_some b o c ps w hs hlt hc hm hk
end Go.Proofs.Ytdjibjmhjofedac
