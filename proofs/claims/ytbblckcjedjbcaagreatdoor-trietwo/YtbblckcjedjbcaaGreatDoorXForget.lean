/-
  trie: Forget.
-/
import Derived.Test.YtbblckcjedjbcaaGreatDoorXDropT
namespace Go.Proofs.YtbblckcjedjbcaaGreatDoor
open Go.RowKit Go.Maps
set_option linter.unusedVariables false
set_option linter.unusedSimpArgs false

theorem cls_del2 {D : List Way} {hs : List He} (ho : Ord hs) (hroot : [] ∈ D) (hcls : ∀ q, q ∈ D ↔ q = [] ∨ ∃ x ∈ hs, q <+: x.way) {h : He} (hh : h ∈ hs) (q : Way) : q ∈ dropW (delH h.s h.i hs) D [] h.way ↔ q = [] ∨ ∃ x ∈ delH h.s h.i hs, q <+: x.way := by
  have hA : ∀ q ∈ D, q = [] ∨ q <+: h.way ∨ Need (delH h.s h.i hs) q := fun q hq => by
    rcases (hcls q).1 hq with e | ⟨x, hx, hp⟩
    · exact .inl e
    · by_cases hc : x.s = h.s ∧ x.i = h.i
      · have := ho.key hx hh hc.1 hc.2
        subst this
        exact .inr (.inl hp)
      · exact .inr (.inr ⟨x, del_mem.2 ⟨hx, hc⟩, hp⟩)
  have hB : ∀ q, Need (delH h.s h.i hs) q → q ∈ D := fun q ⟨x, hx, hp⟩ => (hcls q).2 (.inr ⟨x, (del_mem.1 hx).1, hp⟩)
  rw [dropW_iff hA hB h.way [] rfl]
  constructor
  · rintro ⟨h1, h2⟩
    by_cases e : q = []
    · exact .inl e
    · refine .inr (h2.elim (fun h3 => ?_) id)
      rcases hA q h1 with e2 | e2 | e2
      · exact absurd e2 e
      · exact absurd ⟨List.nil_prefix, e, e2⟩ h3
      · exact e2
  · rintro (rfl | h1)
    · exact ⟨hroot, .inl (fun h => h.2.1 rfl)⟩
    · exact ⟨hB q h1, .inr h1⟩
/-- What is left when the first j of a session's watches are gone. -/
def goneJ (hs : List He) (s : Int) (j : Nat) : List He := hs.filter (fun x => !((ofS hs s).take j).any (fun h => decide (x.s = h.s) && decide (x.i = h.i)))
theorem goneJ_zero (hs : List He) (s : Int) : goneJ hs s 0 = hs := by
  unfold goneJ
  rw [List.filter_eq_self]
  intro x _
  rfl
theorem goneJ_next {hs : List He} {s : Int} {j : Nat} {h : He} (hj : (ofS hs s)[j]? = some h) : delH h.s h.i (goneJ hs s j) = goneJ hs s (j + 1) := by
  unfold delH goneJ
  rw [List.filter_filter]
  apply List.filter_congr
  intro x _
  rw [List.take_add_one, hj, Option.toList_some, List.any_append]
  simp only [List.any_cons, List.any_nil, Bool.or_false, Bool.not_or]
  exact Bool.and_comm _ _
theorem goneJ_mem {hs : List He} (ho : Ord hs) {s : Int} {j : Nat} {h : He} (hj : (ofS hs s)[j]? = some h) : h ∈ goneJ hs s j := by
  unfold goneJ
  refine List.mem_filter.2 ⟨(ofS_mem.1 (List.mem_of_getElem? hj)).1, ?_⟩
  rw [Bool.not_eq_true', Bool.eq_false_iff]
  intro he
  obtain ⟨x, hx, hc⟩ := List.any_eq_true.1 he
  simp only [Bool.and_eq_true, decide_eq_true_eq] at hc
  obtain ⟨k, hk⟩ := List.getElem?_of_mem hx
  have hkj : k < j := by
    have := (List.getElem?_eq_some_iff.1 hk).1
    rw [List.length_take] at this
    omega
  rw [List.getElem?_take_of_lt hkj] at hk
  have hos : Ord (ofS hs s) := ho.filter _
  have h3 := List.pairwise_iff_getElem.1 hos k j (List.getElem?_eq_some_iff.1 hk).1 (List.getElem?_eq_some_iff.1 hj).1 hkj
  rw [(List.getElem?_eq_some_iff.1 hk).2, (List.getElem?_eq_some_iff.1 hj).2, befH, hc.1, hc.2, bef_irr] at h3
  cases h3
theorem goneJ_all (hs : List He) (s : Int) : goneJ hs s (ofS hs s).length = hs.filter (fun x => !decide (x.s = s)) := by
  unfold goneJ
  rw [List.take_length]
  apply List.filter_congr
  intro x hx
  congr 1
  rw [Bool.eq_iff_iff, List.any_eq_true]
  constructor
  · rintro ⟨h, hh, hc⟩
    simp only [Bool.and_eq_true, decide_eq_true_eq] at hc ⊢
    rw [hc.1]
    exact (ofS_mem.1 hh).2
  · intro h
    exact ⟨x, ofS_mem.2 ⟨hx, by simpa using h⟩, by simp⟩
theorem goneJ_sub {hs : List He} {s : Int} {j : Nat} {x : He} (h : x ∈ goneJ hs s j) : x ∈ hs := (List.mem_filter.1 h).1
theorem ofS_other {hs : List He} {s t : Int} (h : t ≠ s) : ofS (hs.filter (fun x => !decide (x.s = s))) t = ofS hs t := by
  unfold ofS
  rw [List.filter_filter]
  apply List.filter_congr
  intro x _
  by_cases e : x.s = t
  · simp [e, h]
  · simp [e]
theorem MidD.next {w W w5 w6 : World} {B : Nat} {y : Lay} {D : List Way} {sb : Nat} {τ : Int → Value} {hs hs' hs6 : List He} {y7 y6 : Lay} {D7 D6 : List Way} (hM : MidD w W B y D sb τ hs hs' y7 D7) (hb : Below W.heap.size W w5) (hT6 : Tr w6 y6 D6 hs6) (hE : TrE w5 w6 y7 y6 D7 D6) (hr : [] ∈ D6) : MidD w w6 B y D sb τ hs hs6 y6 D6 := by
  have hap : ∀ k, Sf (some sb) τ k → ¬ Wt y7 D7 k := fun k hk hw => Go.Proofs.YtbblckcjedjbcaaGreatDoor.apart hM.tr hM.ses hM.rho hM.mu hk (.inl hw)
  have hlt : ∀ k, Sf (some sb) τ k → k < W.heap.size := fun k hk => hM.ses.lt hk
  have hnw : ∀ k, Sf (some sb) τ k → ¬ Wt y6 D6 k := fun k hk hw => by
    rcases hE.new k hw with e | e
    · exact hap k hk e
    · have := hlt k hk
      have := hb.size
      omega
  refine ⟨hT6, ?_, hE.sig.trans hM.sig, (hM.ses.below hb).chg hE.chg (fun k hk => hap k hk), fun x hx => ((hM.held x hx).below hb).chg hE.chg (hM.tr.wh (hM.held x hx)), fun s p hp k hk hk' => hnw k (.inr ⟨s, hk⟩) (.inr (.inr ⟨p, hp, hk'⟩)), fun p hp k hk hk' => hnw k (.inl hk) (.inr (.inl ⟨p, hp, hk'⟩)), ?_, fun k hk => ?_⟩
  · rw [hE.beta [] hM.tr.root hr, hM.top]
  · have h1 : Chg W w6 (Wt y7 D7) := Chg.beh hb hE.chg
    refine ⟨h1.os.trans hM.chg.os, h1.tape.trans hM.chg.tape, h1.output.trans hM.chg.output, Nat.le_trans hM.chg.size h1.size, fun k hk hn => (h1.block k (Nat.lt_of_lt_of_le hk hM.chg.size) (fun hw => ?_)).trans (hM.chg.block k hk hn)⟩
    rcases hM.new k (.inl hw) with e | e
    · exact hn e
    · omega
  · rcases hk with hk | hk
    · rcases hE.new k hk with e | e
      · exact hM.new k (.inl e)
      · exact .inr (Nat.le_trans hM.chg.size (Nat.le_trans hb.size e))
    · exact hM.new k (.inr hk)
theorem midD_start {w : World} {B : Nat} {y : Lay} {D : List Way} {τ : Int → Value} {hs : List He} {sb : Nat} (hT : TrieAt w B y D (some sb) τ hs) : MidD w w B y D sb τ hs hs y D :=
  ⟨hT.tr, hT.top, hT.sig, hT.ses, hT.tr.held, hT.sρ, hT.sμ, Chg.refl _ _, fun k hk => .inl hk⟩
set_option maxHeartbeats 32000000 in
set_option maxRecDepth 100000 in
theorem forget_ok (w : World) (B : Nat) (y : Lay) (D : List Way) (sb : Nat) (τ : Int → Value) (hs : List He) (s : Int) (hT : TrieAt w B y D (some sb) τ hs) (hg : Ground w) (hgl : ∀ k, Tf y D (some sb) τ k → k ≠ 0 ∧ k ≠ 1) (hlen : hs.length ≤ 1000) (hwf : wfI s) (hne : ofS hs s ≠ []) :
    Calls Tryz.prog 23 #[ndV B, .int .i64 s] w fun e w' => e = .returned (.int .i64 ((ofS hs s).length : Nat)) ∧ Dropt w B y D sb τ (hs.filter (fun x => !decide (x.s = s))) w' := by
  obtain ⟨a, c, hτ, hl⟩ := hT.ses.hl (fun x hx => hT.tr.held x hx) s
  have HOF : Hid (Calls Tryz.prog 36 #[ndV B, .int .i64 s] w fun e w' => e = .returned (.slice a (ofS hs s).length c) ∧ w' = w) := by rw [← hτ]; exact of_any w B y D _ τ hs s hT hwf
  have HT : Hid _ := hT
  have HG : Hid _ := hg
  have HGL : Hid _ := hgl
  have HTA : Hid (τ s = .slice a (ofS hs s).length c) := hτ
  have HWF : Hid _ := hwf
  have HLN : Hid (hs.length ≤ 1000) := hlen
  have hml : (ofS hs s).length ≤ 1000 := by have := lenS (hs := hs) s; omega
  have hnl : ¬ (((ofS hs s).length : Int) = 0) := by
    intro e
    exact hne (List.eq_nil_of_length_eq_zero (by omega))
  have hnl2 : (((ofS hs s).length : Int) == 0) = false := by simpa using hnl
  have HD0 : Hid (∀ q, q ∈ D ↔ q = [] ∨ ∃ x ∈ goneJ hs s 0, q <+: x.way) := by rw [goneJ_zero]; exact hT.cls
  have HM0 : Hid (MidD w w B y D sb τ hs (goneJ hs s 0) y D) := by show MidD _ _ _ _ _ _ _ _ _ _ _; rw [goneJ_zero]; exact midD_start hT
  clear hT hg hgl hlen hwf hτ hl hne
  go_enter Tryz.func23, Tryz.ntmps23
  go_wp2_with (first
    | (go_at_call 36; refine Calls.mono HOF.out ?_; rintro e w1 ⟨rfl, hw1⟩; (have HW1 : Hid (w1 = w) := hw1); clear hw1)
    | fail)
  go_loopw [16] (fun vi wr => ∃ (j : Nat) (yj : Lay) (Dj : List Way), vi = .int .i64 j ∧ j ≤ (ofS hs s).length ∧ Hid (MidD w wr B y D sb τ hs (goneJ hs s j) yj Dj) ∧ Hid (∀ q, q ∈ Dj ↔ q = [] ∨ ∃ x ∈ goneJ hs s j, q <+: x.way)) (fun vi _ => (ofS hs s).length - (intOf vi).toNat)
  case atStart => exact ⟨0, y, D, rfl, Nat.zero_le _, by rw [HW1.out]; exact HM0.out, HD0.out⟩
  case round =>
    obtain ⟨j, yj, Dj, rfl, hj, HM, HC⟩ := hrel
    by_cases hlt : j < (ofS hs s).length
    · have hlt' : (j : Int) < ((ofS hs s).length : Int) := by omega
      obtain ⟨h, hx⟩ : ∃ h, (ofS hs s)[j]? = some h := ⟨(ofS hs s)[j], List.getElem?_eq_getElem hlt⟩
      obtain ⟨a8, c8, hτ8, hl8⟩ := HM.out.ses.hl HM.out.held s
      have hτ9 : a8 = a ∧ c8 = c := by
        rw [HTA.out] at hτ8
        simp only [Value.slice.injEq] at hτ8
        exact ⟨hτ8.1.symm, hτ8.2.2.symm⟩
      obtain ⟨rfl, rfl⟩ := hτ9
      obtain ⟨g, rfl, p0, hh⟩ := hl8.at hx
      have HX : Hid ((ofS hs s)[j]? = some h) := hx
      have HHW : Hid (HdAt wr h) := hh
      have HPW : Hid (parse h.p = (0, h.way)) := HT.out.ok h (ofS_mem.1 (List.mem_of_getElem? hx)).1
      have HGW : Hid (Ground wr) := HG.out.chg HM.out.chg (fun e => (HGL.out _ e).1 rfl) (fun e => (HGL.out _ e).2 rfl)
      have HMEM : Hid (h ∈ goneJ hs s j) := goneJ_mem HT.out.tr.ord hx
      have HDC : Hid (∀ (w5 : World) (a5 : Option Addr) (c5 : Nat), Below wr.heap.size wr w5 → NsAt w5 a5 c5 h.way → Calls Tryz.prog 45 #[ndV B, .slice a5 h.way.length c5, h.ptr] w5 fun e w' => e = .returned (.tuple #[]) ∧ ∃ y', Tr w' y' (dropW (delH h.s h.i (goneJ hs s j)) Dj [] h.way) (delH h.s h.i (goneJ hs s j)) ∧ TrE w5 w' yj y' Dj (dropW (delH h.s h.i (goneJ hs s j)) Dj [] h.way)) := fun w5 a5 c5 hb hn => by
        have h2 := (parse_len HPW.out).1
        have h3 : (goneJ hs s j).length ≤ hs.length := List.length_filter_le _ _
        have := drop_any h.way w5 yj Dj (goneJ hs s j) [] a5 c5 h (HM.out.tr.below hb) ((HC.out _).2 (.inr ⟨h, HMEM.out, List.prefix_refl _⟩)) (way_small HPW.out) (by omega) (by have := HLN.out; omega) hn HMEM.out rfl
        rw [HM.out.top] at this
        exact this
      clear hx hτ8 hl8 hh
      go_upto_region 7 with fail
      clear p0
      go_region_held3 (fun w' => True) (first | go_keep | trivial)
        (first
          | (go_at_call 40; refine (names_any h wr.drew HHW.out (HGW.out.below (below_drew (Below.refl _ _))) HPW.out).mono ?_; rintro e w5 ⟨a5, c5, rfl, hn5, hb5⟩
             have HB5 : Hid (Below wr.heap.size wr w5) := of_drew hb5
             have HN5 : Hid _ := hn5
             clear hn5 hb5)
          | (go_at_call 45; refine (HDC.out w5 a5 c5 HB5.out HN5.out).mono ?_; rintro e w6 ⟨rfl, y6, hT6, hE6⟩
             have HM6 : Hid (MidD w w6 B y D sb τ hs (delH h.s h.i (goneJ hs s j)) y6 (dropW (delH h.s h.i (goneJ hs s j)) Dj [] h.way)) := HM.out.next HB5.out hT6 hE6 (dropW_keep HM.out.tr.root (Nat.le_refl _))
             clear hT6 hE6))
      go_wp2_with fail
      go_roundw
      case rel =>
        refine ⟨j + 1, y6, dropW (delH h.s h.i (goneJ hs s j)) Dj [] h.way, by go_num, by omega, ?_, ?_⟩
        · show MidD _ _ _ _ _ _ _ _ _ _ _
          rw [← goneJ_next HX.out]
          exact HM6.out
        · intro q
          rw [← goneJ_next HX.out]
          exact cls_del2 HM.out.tr.ord HM.out.tr.root HC.out HMEM.out q
      case measure => simp [intOf]; omega
    · obtain rfl : j = (ofS hs s).length := by omega
      have hge : ¬ (((ofS hs s).length : Int) < ((ofS hs s).length : Int)) := by omega
      have c2 : wr.cell? ⟨B, 2, none⟩ = some (.map (some sb)) := by
        have := (HM.out.tr.nd [] HM.out.tr.root).cells.2.2.1 rfl
        rw [HM.out.top, HM.out.sig] at this
        exact this
      have HM' := HM.out
      have HC' := HC.out
      rw [goneJ_all] at HM' HC'
      obtain ⟨w8, hdel, hD8⟩ := HM'.gone (fun x hx => HT.out.ok x (List.mem_filter.1 hx).1) HC' HWF.out (fun t ht => ofS_other ht) (fun x hx e => by have := (List.mem_filter.1 hx).2; simp [e] at this)
      have HD8 : Hid _ := hD8
      clear hD8 HM' HC'
      go_wp2_with fail
      go_ret
      exact ⟨rfl, HD8.out⟩
set_option maxHeartbeats 3200000 in
theorem forget_none (w : World) (B : Nat) (y : Lay) (D : List Way) (σ : Option Nat) (τ : Int → Value) (hs : List He) (s : Int) (hT : TrieAt w B y D σ τ hs) (hwf : wfI s) (hne : ofS hs s = []) :
    Calls Tryz.prog 23 #[ndV B, .int .i64 s] w fun e w' => e = .returned (.int .i64 0) ∧ w' = w := by
  obtain ⟨a, c, hτ, _⟩ := hT.ses.hl (fun x hx => hT.tr.held x hx) s
  rw [hne] at hτ
  have HOF : Hid (Calls Tryz.prog 36 #[ndV B, .int .i64 s] w fun e w' => e = .returned (.slice a 0 c) ∧ w' = w) := by
    have := of_any w B y D _ τ hs s hT hwf
    rw [hτ] at this
    exact this
  clear hT hwf hne hτ
  go_enter Tryz.func23, Tryz.ntmps23
  go_wp2_with (first
    | (go_at_call 36; refine Calls.mono HOF.out ?_; rintro e w1 ⟨rfl, rfl⟩)
    | fail)
  go_ret
  exact ⟨rfl, rfl⟩
theorem forgetNil (w : World) (s : Int) :
    Calls Tryz.prog 23 #[.pointer none, .int .i64 s] w fun e w' => e = .returned (.int .i64 0) ∧ w' = w := by
  go_enter Tryz.func23, Tryz.ntmps23
  go_wp2_with (first
    | (go_at_call 36; refine (of_nil w s).mono ?_; rintro e w1 ⟨rfl, rfl⟩)
    | fail)
  go_ret
  exact ⟨rfl, rfl⟩
end Go.Proofs.YtbblckcjedjbcaaGreatDoor
