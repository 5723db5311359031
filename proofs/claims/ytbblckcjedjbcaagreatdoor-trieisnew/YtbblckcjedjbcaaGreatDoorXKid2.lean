/-
  trie: kid.
-/
import Derived.Test.YtbblckcjedjbcaaGreatDoorXKid
namespace Go.Proofs.YtbblckcjedjbcaaGreatDoor
open Go.RowKit Go.Maps
set_option linter.unusedVariables false
set_option linter.unusedSimpArgs false

theorem xclone_any (s : ByteArray) (hs : s.size ≤ 281474976710656) (w : World) :
    Calls Tryz.prog 37 #[.string s] w fun e w' => e = .returned (.string s) ∧ Below w.heap.size w w' := by
  go_enter Tryz.func37, Tryz.ntmps37
  go_wp2_with (first | (go_at_call 65; refine (Tryz.stringslite_Clone s _ hs).mono ?_; rintro e w1 ⟨rfl, hb⟩) | fail)
  go_ret
  exact ⟨rfl, hb⟩
def addD (D : List Way) (q : Way) : List Way := if inD D q then D else D ++ [q]
theorem addD_in {D : List Way} {q : Way} (h : q ∈ D) : addD D q = D := by unfold addD; rw [if_pos (inD_iff.2 h)]
theorem addD_out {D : List Way} {q : Way} (h : q ∉ D) : addD D q = D ++ [q] := by unfold addD; rw [inD_not h]; rfl
/-- What a turn of the tree leaves. -/
structure TrE (w w' : World) (y y' : Lay) (D D' : List Way) : Prop where
  sig : y'.σ = y.σ
  beta : ∀ q ∈ D, q ∈ D' → y'.β q = y.β q
  chg : Chg w w' (Wt y D)
  new : ∀ k, Wt y' D' k → Wt y D k ∨ w.heap.size ≤ k
theorem TrE.trans {w w1 w2 : World} {y y1 y2 : Lay} {D D1 D2 : List Way} (h : TrE w w1 y y1 D D1) (g : TrE w1 w2 y1 y2 D1 D2) (hD : ∀ q ∈ D, q ∈ D2 → q ∈ D1) : TrE w w2 y y2 D D2 :=
  ⟨g.sig.trans h.sig, fun q hq hq2 => (g.beta q (hD q hq hq2) hq2).trans (h.beta q hq (hD q hq hq2)),
   ⟨g.chg.os.trans h.chg.os, g.chg.tape.trans h.chg.tape, g.chg.output.trans h.chg.output, Nat.le_trans h.chg.size g.chg.size, fun k hk hn => (g.chg.block k (Nat.lt_of_lt_of_le hk h.chg.size) (fun hw => (h.new k hw).elim hn (fun e => by omega))).trans (h.chg.block k hk hn)⟩,
   fun k hk => (g.new k hk).elim (fun e => h.new k e) (fun e => .inr (Nat.le_trans h.chg.size e))⟩
theorem TrE.same {w w' : World} {y : Lay} {D : List Way} (h : Below w.heap.size w w') : TrE w w' y y D D := ⟨rfl, fun _ _ _ => rfl, Chg.of_below h _, fun k hk => .inl hk⟩
/-- A way on. -/
def Kid (w : World) (y : Lay) (D : List Way) (hs : List He) (p : Way) (n : ByteArray) (e : Ending) (w' : World) : Prop :=
  ∃ y', e = .returned (ndV (y'.β (p ++ [n]))) ∧ Tr w' y' (addD D (p ++ [n])) hs ∧ TrE w w' y y' D (addD D (p ++ [n]))
set_option maxHeartbeats 6400000 in
theorem kid_there (w : World) (y : Lay) (D : List Way) (hs : List He) (p : Way) (n : ByteArray) (h : Tr w y D hs) (hp : p ∈ D) (hns : n.size ≤ 1000) (hin : p ++ [n] ∈ D) :
    Calls Tryz.prog 66 #[ndV (y.β p), .string n] w (Kid w y D hs p n) := by
  have HE : Hid (∀ w', Below w.heap.size w w' → Kid w y D hs p n (.returned (ndV (y.β (p ++ [n])))) w') := fun w' hb => ⟨y, rfl, by rw [addD_in hin]; exact h.below hb, by rw [addD_in hin]; exact TrE.same hb⟩
  obtain ⟨c0, c1, _, fz⟩ := (h.nd p hp).cells
  have hlk := (h.kids p hp).look hns
  unfold kidV at hlk
  rw [inD_iff.2 hin, if_pos rfl] at hlk
  obtain ⟨mb, hmb⟩ : ∃ mb, y.μ p = some mb := by
    rcases h.kids p hp with ⟨_, h2⟩ | ⟨b, _, h1, _⟩
    · exact absurd hin (h2 n)
    · exact ⟨b, h1⟩
  rw [hmb] at c0 hlk
  have hq := eqlMapNil w mb
  clear h hp hin hmb
  go_enter Tryz.func66, Tryz.ntmps66
  go_wp2_with fail
  go_ret
  exact HE.out _ (Below.refl _ _)
theorem kid_made {w w3 : World} {y : Lay} {D : List Way} {hs : List He} {p : Way} {n : ByteArray} (h : Tr w y D hs) (hp : p ∈ D) (hns : n.size ≤ 1000) (hout : p ++ [n] ∉ D) (hway : ∀ x ∈ hs, x.way ∈ D) {mb nb : Nat} {Dm : DataW Value} (hmb : y.μ p = some mb) (hkr : KR Dm p D y.β)
    (hnew : w.heap.size ≤ nb) (hnb : w3.heap[nb]? = some (.cells #[.map none, .slice none 0 0] 78 (0, 0))) (hc : Chg w w3 (fun k => k = mb)) (hm : MapAt w3 mb (Maps.size (Dm.put (ky n) (.held (ndV nb)))) (Dm.put (ky n) (.held (ndV nb)))) :
    Kid w y D hs p n (.returned (ndV nb)) w3 := by
  have hne : ∀ q ∈ D, q ≠ p ++ [n] := fun q hq e => hout (e ▸ hq)
  refine ⟨_, ?_, by rw [addD_out hout]; exact h.newKid hp hout hns hmb hkr hnew hnb hc hm hway, ?_⟩
  · show Ending.returned (ndV nb) = .returned (ndV (upd y.β (p ++ [n]) nb (p ++ [n])))
    rw [upd_same]
  · rw [addD_out hout]
    refine ⟨rfl, fun q hq _ => upd_other _ _ (hne q hq), hc.mono (fun k _ e => .inr (.inl ⟨p, hp, by rw [e]; exact hmb⟩)), fun k hk => ?_⟩
    have hmem : ∀ q, q ∈ D ++ [p ++ [n]] ↔ q ∈ D ∨ q = p ++ [n] := fun q => by simp
    rcases hk with ⟨q, hq, e⟩ | ⟨q, hq, e⟩ | ⟨q, hq, e⟩
    · have e' : upd y.β (p ++ [n]) nb q = k := e
      rcases (hmem q).1 hq with hq | rfl
      · rw [upd_other _ _ (hne q hq)] at e'
        exact .inl (.inl ⟨q, hq, e'⟩)
      · rw [upd_same] at e'
        exact .inr (by omega)
    · have e' : upd y.μ (p ++ [n]) none q = some k := e
      rcases (hmem q).1 hq with hq | rfl
      · rw [upd_other _ _ (hne q hq)] at e'
        exact .inl (.inr (.inl ⟨q, hq, e'⟩))
      · rw [upd_same] at e'
        cases e'
    · have e' : (upd y.ρ (p ++ [n]) (.slice none 0 0) q).ownBlock = some k := e
      rcases (hmem q).1 hq with hq | rfl
      · rw [upd_other _ _ (hne q hq)] at e'
        exact .inl (.inr (.inr ⟨q, hq, e'⟩))
      · rw [upd_same] at e'
        cases e'
set_option maxHeartbeats 6400000 in
set_option maxRecDepth 100000 in
theorem kid_new (w : World) (y : Lay) (D : List Way) (hs : List He) (p : Way) (n : ByteArray) (h : Tr w y D hs) (hp : p ∈ D) (hns : n.size ≤ 1000) (hout : p ++ [n] ∉ D) (hway : ∀ x ∈ hs, x.way ∈ D) (hD : D.length ≤ 100000) (mb : Nat) (hmb : y.μ p = some mb) :
    Calls Tryz.prog 66 #[ndV (y.β p), .string n] w (Kid w y D hs p n) := by
  obtain ⟨Dm, hmp, hkr⟩ : ∃ Dm, MapAt w mb (Maps.size Dm) Dm ∧ KR Dm p D y.β := by
    rcases h.kids p hp with ⟨h1, _⟩ | ⟨b, Dm, h1, h2, h3⟩
    · rw [hmb] at h1; cases h1
    · rw [hmb] at h1; cases h1; exact ⟨Dm, h2, h3⟩
  have HSZ : Hid (Maps.size Dm ≤ 1000000) := by
    show _ ≤ _
    rw [hkr.size h.dn]
    have := kids_len D p
    omega
  have HMP : Hid _ := hmp
  have HNB : Hid (w.heap.size ≠ mb) := by have := hmp.lt; show _ ≠ _; omega
  have HE : Hid _ := fun (w3 : World) (nb : Nat) => kid_made (w3 := w3) (nb := nb) h hp hns hout hway hmb hkr
  obtain ⟨c0, c1, _, fz⟩ := (h.nd p hp).cells
  have hlk := (h.kids p hp).look hns
  unfold kidV at hlk
  rw [inD_not hout] at hlk
  simp only [Bool.false_eq_true, if_false] at hlk
  rw [hmb] at c0 hlk
  have hq := eqlMapNil w mb
  have hpl : y.β p < w.heap.size := by obtain ⟨c, t, hb, _⟩ := h.kβ hp; exact lt_of_blk hb
  have hcl : n.size ≤ 281474976710656 := by omega
  have HN : Hid (n.size ≤ 1000) := hns
  have HC0 : Hid (w.cell? ⟨y.β p, 0, none⟩ = some (.map (some mb))) := c0
  have HNE : Hid (y.β p ≠ mb) := h.βμ hp hp hmb
  clear h hp hout hmb hmp hkr hway hns
  obtain ⟨W1, hW1⟩ : ∃ z, w.alloc (.cells #[.map none, .slice none 0 0] 78) = z := ⟨_, rfl⟩
  have HW1 : Hid (w.alloc (.cells #[.map none, .slice none 0 0] 78) = W1) := hW1
  have hb1 : Below w.heap.size w W1 := by rw [← hW1]; exact (Below.refl _ _).alloc (Nat.le_refl _) _
  have HX1 : Hid (W1.heap[w.heap.size]? = some (.cells #[.map none, .slice none 0 0] 78 (0, 0))) := by show _ = _; rw [← hW1]; exact heap_alloc_new _ _
  have HB1 : Hid (Below w.heap.size w W1) := hb1
  have d0 : W1.cell? ⟨y.β p, 0, none⟩ = some (.map (some mb)) := by rw [hb1.cell (p := ⟨y.β p, 0, none⟩) hpl]; exact c0
  clear hW1 hb1
  go_enter Tryz.func66, Tryz.ntmps66
  go_upto_region 6 with fail
  rw [HW1.out]
  clear hlk c0 c1 hq fz
  go_region_held3 (fun w' => w'.cell? ⟨y.β p, 0, none⟩ = some (.map (some mb))) (first | go_keep | exact d0 | exact d3)
    (first
      | (go_at_call 37; refine (xclone_any n hcl _).mono ?_; rintro e w2 ⟨rfl, hb2⟩
         clear d0
         have HB2 : Hid (Below w.heap.size w w2) := xtrans2 HB1.out (of_drew hb2)
         have HX2 : Hid (w2.heap[w.heap.size]? = some (.cells #[.map none, .slice none 0 0] 78 (0, 0))) := kept_block (of_drew hb2) HX1.out
         have d0 : w2.cell? ⟨y.β p, 0, none⟩ = some (.map (some mb)) := by rw [HB2.out.cell (p := ⟨y.β p, 0, none⟩) hpl]; exact HC0.out
         obtain ⟨W3, hup, hm3, hc3⟩ := kids_put (map_below HMP.out HB2.out) HSZ.out HN.out w.heap.size
         have HM3 : Hid _ := hm3
         have HC3 : Hid _ := hc3
         have d3 : W3.cell? ⟨y.β p, 0, none⟩ = some (.map (some mb)) := by rw [World.cell?_of_block (w := w2) (hc3.block _ (Nat.lt_of_lt_of_le hpl HB2.out.size) HNE.out)]; exact d0
         clear hm3 hc3 hb2))
  go_wp2_with fail
  go_ret
  exact HE.out W3 w.heap.size (Nat.le_refl _) ((HC3.out.block _ (lt_of_blk HX2.out) (HNB.out)).trans HX2.out) (Chg.beh HB2.out HC3.out) HM3.out
set_option maxHeartbeats 6400000 in
set_option maxRecDepth 100000 in
theorem kid_first (w : World) (y : Lay) (D : List Way) (hs : List He) (p : Way) (n : ByteArray) (h : Tr w y D hs) (hp : p ∈ D) (hns : n.size ≤ 1000) (hout : p ++ [n] ∉ D) (hway : ∀ x ∈ hs, x.way ∈ D) (hD : D.length ≤ 100000) (hμ : y.μ p = none) :
    Calls Tryz.prog 66 #[ndV (y.β p), .string n] w (Kid w y D hs p n) := by
  obtain ⟨W0, hW0⟩ : ∃ z, (w.alloc (.map #[] 0)).setCell ⟨y.β p, 0, none⟩ (.map (some w.heap.size)) = z := ⟨_, rfl⟩
  have HW0 : Hid ((w.alloc (.map #[] 0)).setCell ⟨y.β p, 0, none⟩ (.map (some w.heap.size)) = W0) := hW0
  have hT := h.setMap hp hμ
  rw [hW0] at hT
  have hTE : TrE w W0 y { y with μ := upd y.μ p (some w.heap.size) } D D := by
    refine ⟨rfl, fun _ _ _ => rfl, ?_, fun k hk => ?_⟩
    · rw [← hW0]
      exact ((Chg.alloc w (.map #[] 0) (fun k => k = y.β p)).trans (Chg.set _ _ _)).mono (fun k _ e => .inl ⟨p, hp, e.symm⟩)
    · rcases hk with ⟨q, hq, e⟩ | ⟨q, hq, e⟩ | ⟨q, hq, e⟩
      · exact .inl (.inl ⟨q, hq, e⟩)
      · have e' : upd y.μ p (some w.heap.size) q = some k := e
        by_cases e2 : q = p
        · subst e2
          rw [upd_same] at e'
          cases e'
          exact .inr (Nat.le_refl _)
        · rw [upd_other _ _ e2] at e'
          exact .inl (.inr (.inl ⟨q, hq, e'⟩))
      · exact .inl (.inr (.inr ⟨q, hq, e⟩))
  obtain ⟨c0, c1, _, fz⟩ := (h.nd p hp).cells
  rw [hμ] at c0
  obtain ⟨mb, hmb0⟩ : ∃ mb, w.heap.size = mb := ⟨_, rfl⟩
  have hmb : ({ y with μ := upd y.μ p (some w.heap.size) } : Lay).μ p = some mb := by rw [← hmb0]; exact upd_same _ _ _
  obtain ⟨Dm, hmp, hkr⟩ : ∃ Dm, MapAt W0 mb (Maps.size Dm) Dm ∧ KR Dm p D y.β := by
    rcases hT.kids p hp with ⟨h1, _⟩ | ⟨b, Dm, h1, h2, h3⟩
    · rw [hmb] at h1; cases h1
    · rw [hmb] at h1; cases h1; exact ⟨Dm, h2, h3⟩
  have HSZ : Hid (Maps.size Dm ≤ 1000000) := by
    show _ ≤ _
    rw [hkr.size h.dn]
    have := kids_len D p
    omega
  have HMP : Hid _ := hmp
  have HNB : Hid (W0.heap.size ≠ mb) := by have := hmp.lt; show _ ≠ _; omega
  have HE : Hid _ := fun (w3 : World) (nb : Nat) => kid_made (w3 := w3) (nb := nb) hT hp hns hout hway hmb hkr
  have HTE : Hid _ := hTE
  obtain ⟨k0, _, _, _⟩ := (hT.nd p hp).cells
  have hlk := (hT.kids p hp).look hns
  unfold kidV at hlk
  rw [inD_not hout] at hlk
  simp only [Bool.false_eq_true, if_false] at hlk
  have hmb' : upd y.μ p (some w.heap.size) p = some mb := hmb
  rw [hmb] at k0
  rw [hmb'] at hlk
  clear hmb'
  have k0' : W0.cell? ⟨y.β p, 0, none⟩ = some (.map (some mb)) := k0
  have hq := eqlNilNil w
  have hmm : (Instr.makeMap 74 none).run Tryz.prog w = .ok (.map (some w.heap.size)) (w.alloc (.map #[] 0)) := run_makeMap ..
  have hpl : y.β p < W0.heap.size := by obtain ⟨c, t, hb, _⟩ := hT.kβ hp; exact lt_of_blk hb
  have hcl : n.size ≤ 281474976710656 := by omega
  have HN : Hid (n.size ≤ 1000) := hns
  have HC0 : Hid (W0.cell? ⟨y.β p, 0, none⟩ = some (.map (some mb))) := k0
  have HNE : Hid (y.β p ≠ mb) := hT.βμ hp hp hmb
  have HMB : Hid (w.heap.size = mb) := hmb0
  have hal : (w.alloc (.map #[] 0)).cell? ⟨y.β p, 0, none⟩ = some (.map none) := by
    have hl : y.β p < w.heap.size := by obtain ⟨c, t, hb, _⟩ := h.kβ hp; exact lt_of_blk hb
    rw [((Below.refl w.heap.size w).alloc (Nat.le_refl _) _).cell (p := ⟨y.β p, 0, none⟩) hl]
    exact c0
  have hfz : ∀ o, (w.alloc (.map #[] 0)).frozen? ⟨y.β p, o, none⟩ = false := fun o => by
    have hl : y.β p < w.heap.size := by obtain ⟨c, t, hb, _⟩ := h.kβ hp; exact lt_of_blk hb
    rw [((Below.refl w.heap.size w).alloc (Nat.le_refl _) _).frozen (p := ⟨y.β p, o, none⟩) hl]
    exact fz o
  clear h hT hTE hp hout hmb hmp hkr hway hns hW0 k0 hmb0 hμ
  obtain ⟨W1, hW1⟩ : ∃ z, W0.alloc (.cells #[.map none, .slice none 0 0] 78) = z := ⟨_, rfl⟩
  have HW1 : Hid (W0.alloc (.cells #[.map none, .slice none 0 0] 78) = W1) := hW1
  have hb1 : Below W0.heap.size W0 W1 := by rw [← hW1]; exact (Below.refl _ _).alloc (Nat.le_refl _) _
  have HX1 : Hid (W1.heap[W0.heap.size]? = some (.cells #[.map none, .slice none 0 0] 78 (0, 0))) := by show _ = _; rw [← hW1]; exact heap_alloc_new _ _
  have HB1 : Hid (Below W0.heap.size W0 W1) := hb1
  have d0 : W1.cell? ⟨y.β p, 0, none⟩ = some (.map (some mb)) := by rw [hb1.cell (p := ⟨y.β p, 0, none⟩) hpl]; exact k0'
  clear hW1 hb1
  go_enter Tryz.func66, Tryz.ntmps66
  go_upto_region 3 with fail
  rw [HW0.out, HMB.out]
  clear hal hfz c0 c1 fz hq hmm
  go_upto_region 6 with fail
  rw [HW1.out]
  clear hlk k0'
  go_region_held3 (fun w' => w'.cell? ⟨y.β p, 0, none⟩ = some (.map (some mb))) (first | go_keep | exact d0 | exact d3)
    (first
      | (go_at_call 37; refine (xclone_any n hcl _).mono ?_; rintro e w2 ⟨rfl, hb2⟩
         clear d0
         have HB2 : Hid (Below W0.heap.size W0 w2) := xtrans2 HB1.out (of_drew hb2)
         have HX2 : Hid (w2.heap[W0.heap.size]? = some (.cells #[.map none, .slice none 0 0] 78 (0, 0))) := kept_block (of_drew hb2) HX1.out
         have d0 : w2.cell? ⟨y.β p, 0, none⟩ = some (.map (some mb)) := by rw [HB2.out.cell (p := ⟨y.β p, 0, none⟩) hpl]; exact HC0.out
         obtain ⟨W3, hup, hm3, hc3⟩ := kids_put (map_below HMP.out HB2.out) HSZ.out HN.out W0.heap.size
         have HM3 : Hid _ := hm3
         have HC3 : Hid _ := hc3
         have d3 : W3.cell? ⟨y.β p, 0, none⟩ = some (.map (some mb)) := by rw [World.cell?_of_block (w := w2) (hc3.block _ (Nat.lt_of_lt_of_le hpl HB2.out.size) HNE.out)]; exact d0
         clear hm3 hc3 hb2))
  go_wp2_with fail
  go_ret
  obtain ⟨y', he, hT', hE'⟩ := HE.out W3 W0.heap.size (Nat.le_refl _) ((HC3.out.block _ (lt_of_blk HX2.out) (HNB.out)).trans HX2.out) (Chg.beh HB2.out HC3.out) HM3.out
  exact ⟨y', he, hT', TrE.trans HTE.out hE' (fun q hq _ => hq)⟩
theorem kid_any (w : World) (y : Lay) (D : List Way) (hs : List He) (p : Way) (n : ByteArray) (h : Tr w y D hs) (hp : p ∈ D) (hns : n.size ≤ 1000) (hway : ∀ x ∈ hs, x.way ∈ D) (hD : D.length ≤ 100000) :
    Calls Tryz.prog 66 #[ndV (y.β p), .string n] w (Kid w y D hs p n) := by
  by_cases hin : p ++ [n] ∈ D
  · exact kid_there w y D hs p n h hp hns hin
  · cases hm : y.μ p with
    | none => exact kid_first w y D hs p n h hp hns hin hway hD hm
    | some mb => exact kid_new w y D hs p n h hp hns hin hway hD mb hm
end Go.Proofs.YtbblckcjedjbcaaGreatDoor
