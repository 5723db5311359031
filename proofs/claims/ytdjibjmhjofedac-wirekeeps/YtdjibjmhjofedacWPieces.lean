/-
  small, joined.
-/
import Derived.Test.YtdjibjmhjofedacWApp
import Derived.Test.YtdjibjmhjofedacWFrame
namespace Go.Proofs.Ytdjibjmhjofedac
open Go.RowKit

theorem Pc.val_eq (a : Option Addr) (c : Nat) (ys : List Int) : Pc.val (a, c, ys) = .slice a ys.length c := rfl

set_option maxHeartbeats 1600000 in
set_option maxRecDepth 100000 in
theorem small_some (b o c : Nat) (ps : List Pc) (w : World) (hc : ∀ (j : Nat) (p : Pc), ps[j]? = some p → w.cell? ⟨b, o + j, none⟩ = some p.val) (hk : ps.length ≤ 9223372036854775807) (hm : ps.length ≤ 24 → (bodyOf ps).length ≤ 4611686018427387904) :
    Calls Try.prog 7 #[.slice (some ⟨b, o, none⟩) ps.length c] w fun e w' => e = .returned (.bool (decide ((bodyOf ps).length ≤ 20000 ∧ ps.length ≤ 24))) ∧ w' = w := by
  have HC : Hid _ := hc
  by_cases h24 : ps.length ≤ 24
  · have HM : Hid _ := hm h24
    obtain ⟨r, hr⟩ : ∃ r, decide ((bodyOf ps).length ≤ 20000 ∧ ps.length ≤ 24) = r := ⟨_, rfl⟩
    rw [hr]
    have HR : Hid _ := hr
    clear hc hm hr
    go_enter Try.func7, Try.ntmps7
    go_wp2
    go_loop [3, 4] (fun n i => ∃ k : Nat, n = .int .i64 (bodyOf (ps.take k)).length ∧ i = .int .i64 k ∧ k ≤ ps.length) (fun _ i => ps.length - (intOf i).toNat)
    case atStart => exact ⟨0, rfl, rfl, by omega⟩
    case round =>
      obtain ⟨k, rfl, rfl, hkk⟩ := hrel
      by_cases hlt : k < ps.length
      · obtain ⟨p, hp⟩ : ∃ p, ps[k]? = some p := ⟨ps[k], List.getElem?_eq_getElem hlt⟩
        have hc := HC.out k p hp
        have hst' : (bodyOf (ps.take (k + 1))).length = (bodyOf (ps.take k)).length + p.2.2.length := by rw [body_step hp, List.length_append]
        have hle := Nat.le_trans (body_le ps (k + 1)) HM.out
        have HST : Hid _ := hst'
        obtain ⟨a1, c1, zs⟩ := p
        simp only at hst' HST
        rw [Pc.val_eq] at hc
        rw [hst'] at hle
        generalize (bodyOf (ps.take k)).length = N at hle hst' HST ⊢
        clear hp hst'
        go_wp2
        exact ⟨⟨k + 1, by rw [HST.out]; simp, by go_num, by omega⟩, by simp [intOf]; omega⟩
      · obtain rfl : k = ps.length := by omega
        rw [List.take_length]
        by_cases hs : (bodyOf ps).length ≤ 20000
        · have er : r = true := by rw [← HR.out, decide_eq_true ⟨hs, h24⟩]
          subst er
          have hs' : ((bodyOf ps).length : Int) ≤ 20000 := by omega
          clear HR HM
          generalize (bodyOf ps).length = N at hs hs' ⊢
          go_wp2
          go_ret
          exact ⟨by first | (simp; done) | (simp; omega), rfl⟩
        · have er : r = false := by rw [← HR.out, decide_eq_false (fun h => hs h.1)]
          subst er
          have hs' : ¬ ((bodyOf ps).length : Int) ≤ 20000 := by omega
          clear HR HM
          generalize (bodyOf ps).length = N at hs hs' ⊢
          go_wp2
          go_ret
          exact ⟨by first | (simp; done) | (simp; omega), rfl⟩
  · rw [decide_eq_false (fun h => h24 h.2)]
    clear hc hm
    go_enter Try.func7, Try.ntmps7
    go_wp2
    go_loop [3, 4] (fun n i => ∃ (k : Nat) (z : Int), n = .int .i64 z ∧ i = .int .i64 k ∧ k ≤ ps.length) (fun _ i => ps.length - (intOf i).toNat)
    case atStart => exact ⟨0, 0, rfl, rfl, by omega⟩
    case round =>
      obtain ⟨k, z, rfl, rfl, hkk⟩ := hrel
      by_cases hlt : k < ps.length
      · obtain ⟨p, hp⟩ : ∃ p, ps[k]? = some p := ⟨ps[k], List.getElem?_eq_getElem hlt⟩
        have hc := HC.out k p hp
        obtain ⟨a1, c1, zs⟩ := p
        rw [Pc.val_eq] at hc
        clear hp
        go_wp2
        exact ⟨⟨k + 1, _, rfl, by go_num, by omega⟩, by simp [intOf]; omega⟩
      · obtain rfl : k = ps.length := by omega
        have h24' : ¬ (ps.length : Int) ≤ 24 := by omega
        by_cases hs : z ≤ 20000
        · go_wp2
          go_ret
          exact ⟨by first | (simp; done) | (simp; omega), rfl⟩
        · go_wp2
          go_ret
          exact ⟨by first | (simp; done) | (simp; omega), rfl⟩

theorem small_any (a : Option Addr) (c : Nat) (ps : List Pc) (w : World) (h : Pcs w a ps) (hk : ps.length ≤ 9223372036854775807) (hm : ps.length ≤ 24 → (bodyOf ps).length ≤ 4611686018427387904) :
    Calls Try.prog 7 #[.slice a ps.length c] w fun e w' => e = .returned (.bool (decide ((bodyOf ps).length ≤ 20000 ∧ ps.length ≤ 24))) ∧ w' = w := by
  rcases h.1 with rfl | ⟨b, o, rfl, hlt, hc⟩
  · go_enter Try.func7, Try.ntmps7
    go_wp2
    refine wp_loop_rounds 1 ?_
    rw [rounds_succ]
    go_wp2
    go_ret
    exact ⟨rfl, rfl⟩
  · exact small_some b o c ps w hc hk hm

set_option maxHeartbeats 1600000 in
set_option maxRecDepth 100000 in
theorem joined_any (a : Option Addr) (c : Nat) (ps : List Pc) (w : World) (h : Pcs w a ps) (hk : ps.length ≤ 1000000) (hm : (bodyOf ps).length ≤ 1000000) :
    Calls Try.prog 23 #[.slice a ps.length c] w fun e w' => ∃ a' c', e = .returned (.slice a' (bodyOf ps).length c') ∧ w'.ownsRow w.heap.size 5 1 (.slice a' (bodyOf ps).length c') (bodyOf ps).length (bv (bodyOf ps)) ∧ Below w.heap.size w w' := by
  rcases h.1 with rfl | ⟨b, o, rfl, hlt, hc⟩
  · go_enter Try.func23, Try.ntmps23
    go_wp2
    refine wp_loop_rounds 1 ?_
    rw [rounds_succ]
    go_wp2
    go_ret
    exact ⟨none, 0, rfl, World.ownsRow_nil _ _ _ _, Below.refl _ _⟩
  · have HP : Hid _ := h
    have HC : Hid _ := hc
    have HLT : Hid _ := hlt
    have HM : Hid _ := hm
    clear h hc hlt hm
    go_enter Try.func23, Try.ntmps23
    go_wp2
    go_loopw [3, 4] (fun u i wr => ∃ k : Nat, i = .int .i64 k ∧ k ≤ ps.length ∧ Hid (wr.ownsRow w.heap.size 5 1 u (bodyOf (ps.take k)).length (bv (bodyOf (ps.take k)))) ∧ Hid (Below w.heap.size w wr)) (fun _ i _ => ps.length - (intOf i).toNat)
    case atStart => exact ⟨0, rfl, by omega, World.ownsRow_nil _ _ _ _, Below.refl _ _⟩
    case round =>
      obtain ⟨k, rfl, hkk, HO, HB⟩ := hrel
      by_cases hlt : k < ps.length
      · obtain ⟨p, hp⟩ : ∃ p, ps[k]? = some p := ⟨ps[k], List.getElem?_eq_getElem hlt⟩
        have hc : wr.cell? ⟨b, o + k, none⟩ = some p.val := by rw [HB.out.cell (p := ⟨b, o + k, none⟩) HLT.out]; exact HC.out k p hp
        have hst := body_step hp
        have hle := Nat.le_trans (body_le ps (k + 1)) HM.out
        have hok := (HP.out.2 p (List.mem_of_getElem? hp)).below HB.out
        obtain ⟨a1, c1, zs⟩ := p
        rw [Pc.val_eq] at hc
        simp only at hst
        rw [hst, List.length_append] at hle
        have HST : Hid _ := hst
        have HK : Hid _ := hok
        generalize bodyOf (ps.take k) = D at HO HST hle
        clear hp hst hok
        go_wp2_with (first | (at_builtin; refine wpList_app rfl _ _ rfl w.heap.size _ D rfl HO.out a1 zs.length c1 zs rfl rfl HK.out.1 HK.out.2.2 (by omega) HB.out.size ?_) | fail)
        intro v' w1 ho hg
        have ho1 : w1.ownsRow w.heap.size 5 1 v' (D ++ zs).length (bv (D ++ zs)) := by simpa using ho
        have HO1 : Hid _ := ho1
        have HB1 : Hid (Below w.heap.size w w1) := HB.out.grown hg HB.out.size (fun j hj => (World.ownsRow.lt HO.out j hj).1)
        clear ho ho1 hg
        go_wp2
        exact ⟨⟨k + 1, by go_num, by omega, by rw [HST.out]; exact HO1.out, HB1.out⟩, by simp [intOf]; omega⟩
      · obtain rfl : k = ps.length := by omega
        rw [List.take_length] at HO
        obtain ⟨a1, c1, rfl, -⟩ := bys_of_owns HO.out
        go_wp2
        go_ret
        exact ⟨a1, c1, rfl, HO.out, HB.out⟩
end Go.Proofs.Ytdjibjmhjofedac
