/-
  trie: Match.
-/
import Derived.Test.YtbblckcjedjbcaaGreatDoorXMatch
namespace Go.Proofs.YtbblckcjedjbcaaGreatDoor
open Go.RowKit Go.Maps
set_option linter.unusedVariables false
set_option linter.unusedSimpArgs false

theorem Tryz.infoT : (Tryz.prog.info? 34).map (fun i => (i.zero, i.size, i.bytes)) = some (some (.agg #[.int .i64 0, .int .i64 0]), 2, 16) := by kernel_rfl
theorem owns_lo {w : World} {B B' e s n : Nat} {v : Value} {xs : List Value} (h : w.ownsRow B e s v n xs) (hB : B' ≤ B) : w.ownsRow B' e s v n xs :=
  ⟨h.1, h.2.imp id (fun ⟨g, cap, cur, a, b, c⟩ => ⟨g, cap, cur, a, Nat.le_trans hB b, c⟩)⟩
/-- One tag more. -/
theorem wpList_appT {w : World} {ops : Array Oper} {rest : List Oper} {o : Oper} {act : Act} {Q : Exit → Act → World → Prop} (hgd : o.guard = none) (s x : Operand)
    (ho : o.op = .call { callee := .builtin .append, args := #[s, x], argTypes := #[37, 37] }) (base : Nat) (v : Value) (ts : List Tg) (hs : act.eval s = v) (hown : w.ownsRow base 34 2 v ts.length (tgCs ts))
    (gx : Nat) (t : Tg) (hx : act.eval x = .slice (some ⟨gx, 0, none⟩) 1 1) (hby : w.heap[gx]? = some (.cells #[.int .i64 t.1, .int .i64 t.2] 34 (0, 0))) (hlen : ts.length + 1 ≤ 1000000) (hB : base ≤ w.heap.size)
    (h : ∀ v' w', w'.ownsRow base 34 2 v' (ts ++ [t]).length (tgCs (ts ++ [t])) → Below base w w' → wpList Tryz.prog ops Q rest (act.put o.dst v') w') : wpList Tryz.prog ops Q (o :: rest) act w := by
  obtain ⟨i0, hi, hz0, hz1, hz2⟩ := info_parts Tryz.infoT
  refine wpList_append_own_at _ hgd s x 37 ho base 34 i0 _ 2 16 Tryz.underlying37 hi hz0 hz1 hz2 rfl (by decide) v ts.length (tgCs ts) hs hown ⟨gx, 0, none⟩ 1 1 (encT t) hx rfl (fun j u hu => ?_) (encT_one t) (by unfold maxLen; omega) (by omega) hB ?_
  · rw [addr_add, Nat.zero_add]
    match j with
    | 0 => simp [encT] at hu; subst hu; simp [World.cell?, hby]
    | 1 => simp [encT] at hu; subst hu; simp [World.cell?, hby]
    | j + 2 => simp [encT] at hu
  · intro v' w' ho' hg' _ hat'
    refine h v' w' (by rw [List.length_append, tgCs_append]; simp [tgCs]; simp [tgCs] at ho'; exact ho') ?_
    exact (Chg.grown hg').below hB (fun k hk e => (hown.lt k e).1)
set_option maxHeartbeats 3200000 in
theorem match_nil (stamp ck : Int) (cp cd : ByteArray) (cv : Int) (w : World) (hg : Ground w) :
    Calls Tryz.prog 13 #[.pointer none, .int .i64 stamp, chV ck cp cd cv] w fun e w' => e = .returned (.slice none 0 0) ∧ Below w.heap.size w w' := by
  have hb0 : Below w.heap.size w (w.alloc (.cells #[.int .i64 ck, .string cp, .string cd, .int .i64 cv] 24)) := (Below.refl _ _).alloc (Nat.le_refl _) _
  obtain ⟨b0, b1, b2, b3⟩ := cells_4 (heap_alloc_new w (.cells #[.int .i64 ck, .string cp, .string cd, .int .i64 cv] 24))
  have HPA : Hid _ := parse_any cp _ (hg.below hb0)
  have HB0 : Hid _ := hb0
  clear hg hb0
  go_enter Tryz.func13, Tryz.ntmps13
  go_wp2_with (first
    | (go_at_call 30; refine Calls.mono HPA.out ?_; rintro e w1 ⟨a1, c1, rfl, ho1, hb1⟩; (have HB1 : Hid (Below w.heap.size w w1) := xtrans2 HB0.out hb1); clear hb1 ho1 b0 b1 b2 b3)
    | fail)
  go_ret
  exact ⟨rfl, HB1.out⟩
set_option maxHeartbeats 3200000 in
theorem match_bad (B : Nat) (stamp ck : Int) (cp cd : ByteArray) (cv : Int) (w : World) (hg : Ground w) (hp : (parse cp).1 ≠ 0) :
    Calls Tryz.prog 13 #[ndV B, .int .i64 stamp, chV ck cp cd cv] w fun e w' => e = .returned (.slice none 0 0) ∧ Below w.heap.size w w' := by
  have hb0 : Below w.heap.size w (w.alloc (.cells #[.int .i64 ck, .string cp, .string cd, .int .i64 cv] 24)) := (Below.refl _ _).alloc (Nat.le_refl _) _
  obtain ⟨b0, b1, b2, b3⟩ := cells_4 (heap_alloc_new w (.cells #[.int .i64 ck, .string cp, .string cd, .int .i64 cv] 24))
  have HPA : Hid _ := parse_any cp _ (hg.below hb0)
  have HB0 : Hid _ := hb0
  unfold Parsed at HPA
  obtain ⟨pc, hpc⟩ : ∃ pc, (parse cp).1 = pc := ⟨_, rfl⟩
  rw [hpc] at hp HPA
  clear hg hb0 hpc
  go_enter Tryz.func13, Tryz.ntmps13
  go_wp2_with (first
    | (go_at_call 30; refine Calls.mono HPA.out ?_; rintro e w1 ⟨a1, c1, rfl, ho1, hb1⟩; (have HB1 : Hid (Below w.heap.size w w1) := xtrans2 HB0.out hb1); clear hb1 ho1 b0 b1 b2 b3)
    | fail)
  go_ret
  exact ⟨rfl, HB1.out⟩
def tagsOf (l : List He) : List Tg := l.map (fun h => (h.s, h.i))
theorem tags_next {m : List He} {j : Nat} {x : He} (hx : m[j]? = some x) (P : He → Bool) : tagsOf ((m.take (j + 1)).filter P) = tagsOf ((m.take j).filter P) ++ (if P x then [(x.s, x.i)] else []) := by
  have h1 : m.take (j + 1) = m.take j ++ [x] := by rw [List.take_add_one, hx]; rfl
  rw [h1, List.filter_append]
  unfold tagsOf
  rw [List.map_append]
  congr 1
  by_cases h : P x
  · simp [h]
  · simp [h]
theorem tagBox (w : World) (s i : Int) : (w.alloc (.cells #[.int .i64 s, .int .i64 i] 34)).heap[w.heap.size]? = some (.cells #[.int .i64 s, .int .i64 i] 34 (0, 0)) := heap_alloc_new _ _
set_option maxHeartbeats 32000000 in
set_option maxRecDepth 100000 in
theorem match_ok (B : Nat) (y : Lay) (D : List Way) (σ : Option Nat) (τ : Int → Value) (hs : List He) (stamp ck : Int) (cp cd : ByteArray) (cv : Int) (w : World) (hT : TrieAt w B y D σ τ hs) (hg : Ground w) (hlen : hs.length ≤ 1000) (hp : (parse cp).1 = 0) :
    Calls Tryz.prog 13 #[ndV B, .int .i64 stamp, chV ck cp cd cv] w fun e w' => ∃ v, e = .returned v ∧ w'.ownsRow w.heap.size 34 2 v (matT hs stamp ck cp).length (tgCs (matT hs stamp ck cp)) ∧ Below w.heap.size w w' := by
  have hb0 : Below w.heap.size w (w.alloc (.cells #[.int .i64 ck, .string cp, .string cd, .int .i64 cv] 24)) := (Below.refl _ _).alloc (Nat.le_refl _) _
  have hx0 : (w.alloc (.cells #[.int .i64 ck, .string cp, .string cd, .int .i64 cv] 24)).heap[w.heap.size]? = some (.cells #[.int .i64 ck, .string cp, .string cd, .int .i64 cv] 24 (0, 0)) := heap_alloc_new _ _
  obtain ⟨b0, b1, b2, b3⟩ := cells_4 hx0
  obtain ⟨ns, hns⟩ : ∃ ns, (parse cp).2 = ns := ⟨_, rfl⟩
  have hpn : parse cp = (0, ns) := by rw [← hp, ← hns]
  have HPA : Hid (Calls Tryz.prog 30 #[.string cp] (w.alloc (.cells #[.int .i64 ck, .string cp, .string cd, .int .i64 cv] 24)) fun e w' => ∃ a c, e = .returned (.tuple #[.slice a ns.length c, .int .i64 0]) ∧ NsAt w' a c ns ∧ Below w.heap.size w w' ∧ w'.heap[w.heap.size]? = some (.cells #[.int .i64 ck, .string cp, .string cd, .int .i64 cv] 24 (0, 0))) := by
    refine (parse_any cp _ (hg.below hb0)).mono ?_
    rintro e w' ⟨a, c, he, ho, hb⟩
    rw [hpn] at he ho
    exact ⟨a, c, he, NsAt.of ho, xtrans2 hb0 hb, kept_block hb hx0⟩
  have hnl : ns.length ≤ 6 := (parse_len hpn).1
  have HAL : Hid (∀ (w1 : World) (a : Option Addr) (c : Nat), Below w.heap.size w w1 → NsAt w1 a c ns → Calls Tryz.prog 31 #[ndV B, .slice a ns.length c, .slice none 0 0] w1 fun e w' => ∃ v', e = .returned v' ∧ w'.ownsRow w1.heap.size 91 1 v' (alongH D hs [] ns).length (ptrs (alongH D hs [] ns)) ∧ Below w1.heap.size w1 w') := fun w1 a c hb hn => by
    have h1 := along_any ns w1 y D hs [] a c w1.heap.size (.slice none 0 0) [] (hT.tr.below hb) hT.tr.root (way_small hpn) hn (fun k hk => (hT.tr.below hb).lt hk) (fun b cur hx o _ => lt_of_blk hx) (Nat.le_refl _) (World.ownsRow_nil _ _ _ _) (by simp only [List.length_nil, Nat.zero_add]; have : hs.length * (ns.length + 1) ≤ 1000 * 7 := Nat.mul_le_mul hlen (by omega); omega) (by omega)
    rw [hT.top] at h1
    exact h1
  have HPM : Hid ((tagsOf ((alongH D hs [] ns).filter (matH stamp ck cp))).Perm (matT hs stamp ck cp)) := by
    have := match_perm (D := D) (hs := hs) (stamp := stamp) (ck := ck) (cp := cp) (fun h hh q hq => (hT.cls q).2 (.inr ⟨h, hh, hq⟩)) hp
    rw [hns] at this
    exact this.map _
  obtain ⟨m, hm⟩ : ∃ m, alongH D hs [] ns = m := ⟨_, rfl⟩
  have HMH : Hid (∀ x ∈ m, x ∈ hs) := fun x hx => by
    have := (along_perm (D := D) (hs := hs) (fun h hh q hq => (hT.cls q).2 (.inr ⟨h, hh, hq⟩)) ns []).mem_iff.1 (by rw [hm]; exact hx)
    exact (List.mem_filter.1 this).1
  have HML : Hid (m.length ≤ 7000) := by
    have := alongH_len D hs ns []
    rw [hm] at this
    have h2 : hs.length * (ns.length + 1) ≤ 1000 * 7 := Nat.mul_le_mul hlen (by omega)
    show _ ≤ _
    omega
  rw [hm] at HAL HPM
  have HT : Hid _ := hT
  have HG : Hid _ := hg
  have HORD : Hid (Ord hs) := hT.tr.ord
  have HHL : Hid (hs.length ≤ 1000) := hlen
  have hlm : (m.length : Int) ≤ 9223372036854775807 := by have := HML.out; omega
  clear hT hg hlen hp hb0 hx0 hns hpn hnl hm
  go_enter Tryz.func13, Tryz.ntmps13
  go_wp2_with (first
    | (go_at_call 30; refine Calls.mono HPA.out ?_; rintro e w1 ⟨a1, c1, rfl, hn1, hb1, hx1⟩
       have HB1 : Hid (Below w.heap.size w w1) := hb1
       have HN1 : Hid _ := hn1
       have HX1 : Hid _ := hx1
       clear hb1 hn1 hx1 b0 b1 b2 b3)
    | (go_at_call 31; refine Calls.mono (HAL.out w1 a1 c1 HB1.out HN1.out) ?_; rintro e w2 ⟨v2, rfl, ho2, hb2⟩
       have HB2 : Hid (Below w.heap.size w w2) := xtrans2 HB1.out hb2
       have HX2 : Hid _ := kept_block hb2 HX1.out
       obtain ⟨a2, c2, hv2⟩ := owns_shape ho2
       subst hv2
       have HL2 : Hid (Hl w2 a2 c2 m) := ⟨owns_lo ho2 (Nat.zero_le _), fun x hx => (HT.out.tr.held x (HMH.out x hx)).below HB2.out⟩
       clear ho2 hb2)
    | fail)
  go_loopw [9, 30] (fun vt vi wr => ∃ j : Nat, vi = .int .i64 j ∧ j ≤ m.length ∧ Hid (wr.ownsRow w2.heap.size 34 2 vt (tagsOf ((m.take j).filter (matH stamp ck cp))).length (tgCs (tagsOf ((m.take j).filter (matH stamp ck cp))))) ∧ Hid (Below w2.heap.size w2 wr)) (fun _ vi _ => m.length - (intOf vi).toNat)
  case atStart => exact ⟨0, rfl, Nat.zero_le _, World.ownsRow_nil _ _ _ _, Below.refl _ _⟩
  case round =>
    obtain ⟨j, rfl, hj, HO, HB⟩ := hrel
    by_cases hlt : j < m.length
    · have hlt' : (j : Int) < (m.length : Int) := by omega
      obtain ⟨x, hx⟩ : ∃ x, m[j]? = some x := ⟨m[j], List.getElem?_eq_getElem hlt⟩
      obtain ⟨g, rfl, p0, hh⟩ := (HL2.out.below HB.out).at hx
      obtain ⟨b0, b1, b2, b3⟩ := cells_4 (kept_block HB.out HX2.out)
      have HWR : Hid (Below w.heap.size w wr) := xtrans2 HB2.out HB.out
      have HMT : Hid _ := matches_any x stamp ck cp cd cv wr hh (HG.out.below HWR.out)
      have HNX : Hid _ := tags_next hx (matH stamp ck cp)
      have HHX : Hid (HdAt wr x) := hh
      obtain ⟨mb, hmb⟩ : ∃ mb, matH stamp ck cp x = mb := ⟨_, rfl⟩
      rw [hmb] at HMT HNX
      clear hx hh hmb
      cases mb with
      | false =>
        go_wp2_with (first
          | (go_at_call 32; refine Calls.mono HMT.out ?_; rintro e w3 ⟨rfl, hb3⟩
             have HB3 : Hid (Below w2.heap.size w2 w3) := xtrans2 HB.out hb3
             have HO3 : Hid _ := owns_below HO.out hb3
             clear hb3 b0 b1 b2 b3 p0)
          | fail)
        go_roundw
        case rel =>
          refine ⟨j + 1, by go_num, by omega, ?_, HB3.out⟩
          have e := HNX.out
          simp only [Bool.false_eq_true, if_false, List.append_nil] at e
          show World.ownsRow _ _ _ _ _ _ _
          rw [e]
          exact HO3.out
        case measure => simp [intOf]; omega
      | true =>
        have HLN : Hid ((tagsOf ((m.take j).filter (matH stamp ck cp))).length + 1 ≤ 1000000) := by
          have h1 : (tagsOf ((m.take j).filter (matH stamp ck cp))).length ≤ (m.take j).length := by unfold tagsOf; rw [List.length_map]; exact List.length_filter_le _ _
          rw [List.length_take] at h1
          have := HML.out
          show _ ≤ _
          omega
        go_wp2_with (first
          | (go_at_call 32; refine Calls.mono HMT.out ?_; rintro e w3 ⟨rfl, hb3⟩
             have HB3 : Hid (Below w2.heap.size w2 w3) := xtrans2 HB.out hb3
             have HO3 : Hid _ := owns_below HO.out hb3
             have HH3 : Hid (HdAt w3 x) := HHX.out.below hb3
             clear hb3 b0 b1 b2 b3 p0)
          | (go_at_call 33; refine (tag_any x w3 HH3.out).mono ?_; rintro e w4 ⟨rfl, hb4⟩
             have HB4 : Hid (Below w2.heap.size w2 w4) := xtrans2 HB3.out hb4
             have HO4 : Hid _ := owns_below HO3.out hb4
             clear hb4)
          | (at_builtin; refine wpList_appT rfl _ _ rfl w2.heap.size _ (tagsOf ((m.take j).filter (matH stamp ck cp))) rfl (owns_below HO4.out ((Below.refl _ _).alloc (Nat.le_refl _) _)) w4.heap.size (x.s, x.i) rfl (tagBox w4 x.s x.i) HLN.out (by have := HB4.out.size; simp; omega) ?_
             intro v5 w5 ho5 hb5
             have HO5 : Hid _ := ho5
             have HB5 : Hid (Below w2.heap.size w2 w5) := (HB4.out.alloc HB4.out.size _).trans hb5
             clear ho5 hb5)
          | fail)
        go_roundw
        case rel =>
          refine ⟨j + 1, by go_num, by omega, ?_, HB5.out⟩
          have e := HNX.out
          simp only [if_true] at e
          show World.ownsRow _ _ _ _ _ _ _
          rw [e]
          exact HO5.out
        case measure => simp [intOf]; omega
    · obtain rfl : j = m.length := by omega
      have hge : ¬ ((m.length : Int) < (m.length : Int)) := by omega
      have HO' : Hid (wr.ownsRow w2.heap.size 34 2 u9 (tagsOf (m.filter (matH stamp ck cp))).length (tgCs (tagsOf (m.filter (matH stamp ck cp))))) := by
        have := HO.out
        rw [List.take_length] at this
        exact this
      obtain ⟨ts, hts⟩ : ∃ ts, tagsOf (m.filter (matH stamp ck cp)) = ts := ⟨_, rfl⟩
      rw [hts] at HO' HPM
      clear HO hts
      have HTL : Hid (ts.length ≤ 100000) := by
        have h1 := HPM.out.length_eq
        have h2 : (matT hs stamp ck cp).length ≤ hs.length := by unfold matT; rw [List.length_map]; exact List.length_filter_le _ _
        show _ ≤ _
        have := HHL.out
        omega
      have HWR : Hid (Below w.heap.size w wr) := xtrans2 HB2.out HB.out
      have HSZ : Hid (w.heap.size ≤ w2.heap.size) := HB2.out.size
      rcases HO'.out.2 with ⟨hv, h0⟩ | ⟨g9, cap9, cur9, hv, _⟩
      · subst hv
        have hn : ts = [] := by simpa using h0
        have HMN : Hid (matT hs stamp ck cp = []) := by
          have := HPM.out
          rw [hn] at this
          exact this.nil_eq.symm
        clear h0 hn HO' HPM HTL
        go_wp2_with (first | (go_at_call 34; refine (sortNil wr).mono ?_; rintro e w6 ⟨rfl, hb6⟩; (have HB6 : Hid (Below w.heap.size w w6) := xtrans2 HWR.out hb6); clear hb6) | fail)
        go_ret
        refine ⟨_, rfl, ?_, HB6.out⟩
        rw [HMN.out]
        exact World.ownsRow_nil _ _ _ _
      · subst hv
        have HSO : Hid _ := sortTags w2.heap.size g9 cap9 ts wr HO'.out HTL.out
        have HGB : Hid (w2.heap.size ≤ g9) := (HO'.out.lt g9 rfl).1
        clear HO' HTL
        go_wp2_with (first
          | (go_at_call 34; refine Calls.mono HSO.out ?_; rintro e w6 ⟨rfl, us, hp6, hs6, ho6, hg6⟩
             have HP6 : Hid _ := hp6
             have HS6 : Hid _ := hs6
             have HO6 : Hid _ := ho6
             have HB6 : Hid (Below w.heap.size w w6) := HWR.out.grown hg6 HWR.out.size (fun k hk => by cases hk; exact Nat.le_trans HSZ.out HGB.out)
             clear hp6 hs6 ho6 hg6)
          | fail)
        go_ret
        have e := match_sorted HORD.out (HP6.out.trans HPM.out) HS6.out
        refine ⟨_, rfl, ?_, HB6.out⟩
        have h1 := HO6.out
        rw [e, ← HP6.out.length_eq, e] at h1
        rw [← e, HP6.out.length_eq] at h1 ⊢
        exact owns_lo h1 HSZ.out
end Go.Proofs.YtbblckcjedjbcaaGreatDoor
