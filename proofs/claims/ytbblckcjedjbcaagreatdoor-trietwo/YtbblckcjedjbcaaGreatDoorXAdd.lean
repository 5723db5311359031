import Derived.Test.YtbblckcjedjbcaaGreatDoorXKid
namespace Go.Proofs.YtbblckcjedjbcaaGreatDoor
open Go.RowKit Go.Maps
set_option linter.unusedVariables false
set_option linter.unusedSimpArgs false

theorem xclone_any (s : ByteArray) (hs : s.size ≤ 281474976710656) (w : World) :
    Calls Tryz.prog 37 #[.string s] w fun e w' => e = .returned (.string s) ∧ Below w.heap.size w w' := by
  go_enter Tryz.func37, Tryz.ntmps37
  go_wp2_with (first | (go_at_call 65; refine (Tryz.stringslite_Clone s _ hs).mono ?_; rintro e w1 ⟨rfl, hb⟩) | fail)
  go_ret
  exact ⟨rfl, hb⟩
def addD (D : List Way) (q : Way) : List Way := if inD D q then D else D ++ [q]
theorem addD_in {D : List Way} {q : Way} (h : q ∈ D) : addD D q = D := by unfold addD; rw [if_pos (inD_iff.2 h)]
theorem addD_out {D : List Way} {q : Way} (h : q ∉ D) : addD D q = D ++ [q] := by unfold addD; rw [inD_not h]; rfl
/-- What a turn of the tree leaves. -/
structure TrE (w w' : World) (y y' : Lay) (D D' : List Way) : Prop where
  sig : y'.σ = y.σ
  beta : ∀ q ∈ D, q ∈ D' → y'.β q = y.β q
  chg : Chg w w' (Wt y D)
  new : ∀ k, Wt y' D' k → Wt y D k ∨ w.heap.size ≤ k
theorem TrE.trans {w w1 w2 : World} {y y1 y2 : Lay} {D D1 D2 : List Way} (h : TrE w w1 y y1 D D1) (g : TrE w1 w2 y1 y2 D1 D2) (hD : ∀ q ∈ D, q ∈ D2 → q ∈ D1) : TrE w w2 y y2 D D2 :=
  ⟨g.sig.trans h.sig, fun q hq hq2 => (g.beta q (hD q hq hq2) hq2).trans (h.beta q hq (hD q hq hq2)),
   ⟨g.chg.os.trans h.chg.os, g.chg.tape.trans h.chg.tape, g.chg.output.trans h.chg.output, Nat.le_trans h.chg.size g.chg.size, fun k hk hn => (g.chg.block k (Nat.lt_of_lt_of_le hk h.chg.size) (fun hw => (h.new k hw).elim hn (fun e => by omega))).trans (h.chg.block k hk hn)⟩,
   fun k hk => (g.new k hk).elim (fun e => h.new k e) (fun e => .inr (Nat.le_trans h.chg.size e))⟩
theorem TrE.same {w w' : World} {y : Lay} {D : List Way} (h : Below w.heap.size w w') : TrE w w' y y D D := ⟨rfl, fun _ _ _ => rfl, Chg.of_below h _, fun k hk => .inl hk⟩
/-- A way on. -/
def Kid (w : World) (y : Lay) (D : List Way) (hs : List He) (p : Way) (n : ByteArray) (e : Ending) (w' : World) : Prop :=
  ∃ y', e = .returned (ndV (y'.β (p ++ [n]))) ∧ Tr w' y' (addD D (p ++ [n])) hs ∧ TrE w w' y y' D (addD D (p ++ [n]))
set_option maxHeartbeats 6400000 in
theorem kid_there (w : World) (y : Lay) (D : List Way) (hs : List He) (p : Way) (n : ByteArray) (h : Tr w y D hs) (hp : p ∈ D) (hns : n.size ≤ 1000) (hin : p ++ [n] ∈ D) :
    Calls Tryz.prog 66 #[ndV (y.β p), .string n] w (Kid w y D hs p n) := by
  have HE : Hid (∀ w', Below w.heap.size w w' → Kid w y D hs p n (.returned (ndV (y.β (p ++ [n])))) w') := fun w' hb => ⟨y, rfl, by rw [addD_in hin]; exact h.below hb, by rw [addD_in hin]; exact TrE.same hb⟩
  obtain ⟨c0, c1, _, fz⟩ := (h.nd p hp).cells
  have hlk := (h.kids p hp).look hns
  unfold kidV at hlk
  rw [inD_iff.2 hin, if_pos rfl] at hlk
  obtain ⟨mb, hmb⟩ : ∃ mb, y.μ p = some mb := by
    rcases h.kids p hp with ⟨_, h2⟩ | ⟨b, _, h1, _⟩
    · exact absurd hin (h2 n)
    · exact ⟨b, h1⟩
  rw [hmb] at c0 hlk
  have hq := eqlMapNil w mb
  clear h hp hin hmb
  go_enter Tryz.func66, Tryz.ntmps66
  go_wp2_with fail
  go_ret
  exact HE.out _ (Below.refl _ _)
theorem kid_made {w w3 : World} {y : Lay} {D : List Way} {hs : List He} {p : Way} {n : ByteArray} (h : Tr w y D hs) (hp : p ∈ D) (hns : n.size ≤ 1000) (hout : p ++ [n] ∉ D) (hway : ∀ x ∈ hs, x.way ∈ D) {mb nb : Nat} {Dm : DataW Value} (hmb : y.μ p = some mb) (hkr : KR Dm p D y.β)
    (hnew : w.heap.size ≤ nb) (hnb : w3.heap[nb]? = some (.cells #[.map none, .slice none 0 0] 78 (0, 0))) (hc : Chg w w3 (fun k => k = mb)) (hm : MapAt w3 mb (Maps.size (Dm.put (ky n) (.held (ndV nb)))) (Dm.put (ky n) (.held (ndV nb)))) :
    Kid w y D hs p n (.returned (ndV nb)) w3 := by
  have hne : ∀ q ∈ D, q ≠ p ++ [n] := fun q hq e => hout (e ▸ hq)
  refine ⟨_, ?_, by rw [addD_out hout]; exact h.newKid hp hout hns hmb hkr hnew hnb hc hm hway, ?_⟩
  · show Ending.returned (ndV nb) = .returned (ndV (upd y.β (p ++ [n]) nb (p ++ [n])))
    rw [upd_same]
  · rw [addD_out hout]
    refine ⟨rfl, fun q hq _ => upd_other _ _ (hne q hq), hc.mono (fun k _ e => .inr (.inl ⟨p, hp, by rw [e]; exact hmb⟩)), fun k hk => ?_⟩
    have hmem : ∀ q, q ∈ D ++ [p ++ [n]] ↔ q ∈ D ∨ q = p ++ [n] := fun q => by simp
    rcases hk with ⟨q, hq, e⟩ | ⟨q, hq, e⟩ | ⟨q, hq, e⟩
    · have e' : upd y.β (p ++ [n]) nb q = k := e
      rcases (hmem q).1 hq with hq | rfl
      · rw [upd_other _ _ (hne q hq)] at e'
        exact .inl (.inl ⟨q, hq, e'⟩)
      · rw [upd_same] at e'
        exact .inr (by omega)
    · have e' : upd y.μ (p ++ [n]) none q = some k := e
      rcases (hmem q).1 hq with hq | rfl
      · rw [upd_other _ _ (hne q hq)] at e'
        exact .inl (.inr (.inl ⟨q, hq, e'⟩))
      · rw [upd_same] at e'
        cases e'
    · have e' : (upd y.ρ (p ++ [n]) (.slice none 0 0) q).ownBlock = some k := e
      rcases (hmem q).1 hq with hq | rfl
      · rw [upd_other _ _ (hne q hq)] at e'
        exact .inl (.inr (.inr ⟨q, hq, e'⟩))
      · rw [upd_same] at e'
        cases e'
set_option maxHeartbeats 6400000 in
set_option maxRecDepth 100000 in
theorem kid_new (w : World) (y : Lay) (D : List Way) (hs : List He) (p : Way) (n : ByteArray) (h : Tr w y D hs) (hp : p ∈ D) (hns : n.size ≤ 1000) (hout : p ++ [n] ∉ D) (hway : ∀ x ∈ hs, x.way ∈ D) (hD : D.length ≤ 100000) (mb : Nat) (hmb : y.μ p = some mb) :
    Calls Tryz.prog 66 #[ndV (y.β p), .string n] w (Kid w y D hs p n) := by
  obtain ⟨Dm, hmp, hkr⟩ : ∃ Dm, MapAt w mb (Maps.size Dm) Dm ∧ KR Dm p D y.β := by
    rcases h.kids p hp with ⟨h1, _⟩ | ⟨b, Dm, h1, h2, h3⟩
    · rw [hmb] at h1; cases h1
    · rw [hmb] at h1; cases h1; exact ⟨Dm, h2, h3⟩
  have HSZ : Hid (Maps.size Dm ≤ 1000000) := by
    show _ ≤ _
    rw [hkr.size h.dn]
    have := kids_len D p
    omega
  have HMP : Hid _ := hmp
  have HNB : Hid (w.heap.size ≠ mb) := by have := hmp.lt; show _ ≠ _; omega
  have HE : Hid _ := fun (w3 : World) (nb : Nat) => kid_made (w3 := w3) (nb := nb) h hp hns hout hway hmb hkr
  obtain ⟨c0, c1, _, fz⟩ := (h.nd p hp).cells
  have hlk := (h.kids p hp).look hns
  unfold kidV at hlk
  rw [inD_not hout] at hlk
  simp only [Bool.false_eq_true, if_false] at hlk
  rw [hmb] at c0 hlk
  have hq := eqlMapNil w mb
  have hpl : y.β p < w.heap.size := by obtain ⟨c, t, hb, _⟩ := h.kβ hp; exact lt_of_blk hb
  have hcl : n.size ≤ 281474976710656 := by omega
  have HN : Hid (n.size ≤ 1000) := hns
  have HC0 : Hid (w.cell? ⟨y.β p, 0, none⟩ = some (.map (some mb))) := c0
  have HNE : Hid (y.β p ≠ mb) := h.βμ hp hp hmb
  clear h hp hout hmb hmp hkr hway hns
  obtain ⟨W1, hW1⟩ : ∃ z, w.alloc (.cells #[.map none, .slice none 0 0] 78) = z := ⟨_, rfl⟩
  have HW1 : Hid (w.alloc (.cells #[.map none, .slice none 0 0] 78) = W1) := hW1
  have hb1 : Below w.heap.size w W1 := by rw [← hW1]; exact (Below.refl _ _).alloc (Nat.le_refl _) _
  have HX1 : Hid (W1.heap[w.heap.size]? = some (.cells #[.map none, .slice none 0 0] 78 (0, 0))) := by show _ = _; rw [← hW1]; exact heap_alloc_new _ _
  have HB1 : Hid (Below w.heap.size w W1) := hb1
  have d0 : W1.cell? ⟨y.β p, 0, none⟩ = some (.map (some mb)) := by rw [hb1.cell (p := ⟨y.β p, 0, none⟩) hpl]; exact c0
  clear hW1 hb1
  go_enter Tryz.func66, Tryz.ntmps66
  go_upto_region 6 with fail
  rw [HW1.out]
  clear hlk c0 c1 hq fz
  go_region_held3 (fun w' => w'.cell? ⟨y.β p, 0, none⟩ = some (.map (some mb))) (first | go_keep | exact d0 | exact d3)
    (first
      | (go_at_call 37; refine (xclone_any n hcl _).mono ?_; rintro e w2 ⟨rfl, hb2⟩
         clear d0
         have HB2 : Hid (Below w.heap.size w w2) := xtrans2 HB1.out (of_drew hb2)
         have HX2 : Hid (w2.heap[w.heap.size]? = some (.cells #[.map none, .slice none 0 0] 78 (0, 0))) := kept_block (of_drew hb2) HX1.out
         have d0 : w2.cell? ⟨y.β p, 0, none⟩ = some (.map (some mb)) := by rw [HB2.out.cell (p := ⟨y.β p, 0, none⟩) hpl]; exact HC0.out
         obtain ⟨W3, hup, hm3, hc3⟩ := kids_put (map_below HMP.out HB2.out) HSZ.out HN.out w.heap.size
         have HM3 : Hid _ := hm3
         have HC3 : Hid _ := hc3
         have d3 : W3.cell? ⟨y.β p, 0, none⟩ = some (.map (some mb)) := by rw [World.cell?_of_block (w := w2) (hc3.block _ (Nat.lt_of_lt_of_le hpl HB2.out.size) HNE.out)]; exact d0
         clear hm3 hc3 hb2))
  go_wp2_with fail
  go_ret
  exact HE.out W3 w.heap.size (Nat.le_refl _) ((HC3.out.block _ (lt_of_blk HX2.out) (HNB.out)).trans HX2.out) (Chg.beh HB2.out HC3.out) HM3.out
set_option maxHeartbeats 6400000 in
set_option maxRecDepth 100000 in
theorem kid_first (w : World) (y : Lay) (D : List Way) (hs : List He) (p : Way) (n : ByteArray) (h : Tr w y D hs) (hp : p ∈ D) (hns : n.size ≤ 1000) (hout : p ++ [n] ∉ D) (hway : ∀ x ∈ hs, x.way ∈ D) (hD : D.length ≤ 100000) (hμ : y.μ p = none) :
    Calls Tryz.prog 66 #[ndV (y.β p), .string n] w (Kid w y D hs p n) := by
  obtain ⟨W0, hW0⟩ : ∃ z, (w.alloc (.map #[] 0)).setCell ⟨y.β p, 0, none⟩ (.map (some w.heap.size)) = z := ⟨_, rfl⟩
  have HW0 : Hid ((w.alloc (.map #[] 0)).setCell ⟨y.β p, 0, none⟩ (.map (some w.heap.size)) = W0) := hW0
  have hT := h.setMap hp hμ
  rw [hW0] at hT
  have hTE : TrE w W0 y { y with μ := upd y.μ p (some w.heap.size) } D D := by
    refine ⟨rfl, fun _ _ _ => rfl, ?_, fun k hk => ?_⟩
    · rw [← hW0]
      exact ((Chg.alloc w (.map #[] 0) (fun k => k = y.β p)).trans (Chg.set _ _ _)).mono (fun k _ e => .inl ⟨p, hp, e.symm⟩)
    · rcases hk with ⟨q, hq, e⟩ | ⟨q, hq, e⟩ | ⟨q, hq, e⟩
      · exact .inl (.inl ⟨q, hq, e⟩)
      · have e' : upd y.μ p (some w.heap.size) q = some k := e
        by_cases e2 : q = p
        · subst e2
          rw [upd_same] at e'
          cases e'
          exact .inr (Nat.le_refl _)
        · rw [upd_other _ _ e2] at e'
          exact .inl (.inr (.inl ⟨q, hq, e'⟩))
      · exact .inl (.inr (.inr ⟨q, hq, e⟩))
  obtain ⟨c0, c1, _, fz⟩ := (h.nd p hp).cells
  rw [hμ] at c0
  obtain ⟨mb, hmb0⟩ : ∃ mb, w.heap.size = mb := ⟨_, rfl⟩
  have hmb : ({ y with μ := upd y.μ p (some w.heap.size) } : Lay).μ p = some mb := by rw [← hmb0]; exact upd_same _ _ _
  obtain ⟨Dm, hmp, hkr⟩ : ∃ Dm, MapAt W0 mb (Maps.size Dm) Dm ∧ KR Dm p D y.β := by
    rcases hT.kids p hp with ⟨h1, _⟩ | ⟨b, Dm, h1, h2, h3⟩
    · rw [hmb] at h1; cases h1
    · rw [hmb] at h1; cases h1; exact ⟨Dm, h2, h3⟩
  have HSZ : Hid (Maps.size Dm ≤ 1000000) := by
    show _ ≤ _
    rw [hkr.size h.dn]
    have := kids_len D p
    omega
  have HMP : Hid _ := hmp
  have HNB : Hid (W0.heap.size ≠ mb) := by have := hmp.lt; show _ ≠ _; omega
  have HE : Hid _ := fun (w3 : World) (nb : Nat) => kid_made (w3 := w3) (nb := nb) hT hp hns hout hway hmb hkr
  have HTE : Hid _ := hTE
  obtain ⟨k0, _, _, _⟩ := (hT.nd p hp).cells
  have hlk := (hT.kids p hp).look hns
  unfold kidV at hlk
  rw [inD_not hout] at hlk
  simp only [Bool.false_eq_true, if_false] at hlk
  have hmb' : upd y.μ p (some w.heap.size) p = some mb := hmb
  rw [hmb] at k0
  rw [hmb'] at hlk
  clear hmb'
  have k0' : W0.cell? ⟨y.β p, 0, none⟩ = some (.map (some mb)) := k0
  have hq := eqlNilNil w
  have hmm : (Instr.makeMap 74 none).run Tryz.prog w = .ok (.map (some w.heap.size)) (w.alloc (.map #[] 0)) := run_makeMap ..
  have hpl : y.β p < W0.heap.size := by obtain ⟨c, t, hb, _⟩ := hT.kβ hp; exact lt_of_blk hb
  have hcl : n.size ≤ 281474976710656 := by omega
  have HN : Hid (n.size ≤ 1000) := hns
  have HC0 : Hid (W0.cell? ⟨y.β p, 0, none⟩ = some (.map (some mb))) := k0
  have HNE : Hid (y.β p ≠ mb) := hT.βμ hp hp hmb
  have HMB : Hid (w.heap.size = mb) := hmb0
  have hal : (w.alloc (.map #[] 0)).cell? ⟨y.β p, 0, none⟩ = some (.map none) := by
    have hl : y.β p < w.heap.size := by obtain ⟨c, t, hb, _⟩ := h.kβ hp; exact lt_of_blk hb
    rw [((Below.refl w.heap.size w).alloc (Nat.le_refl _) _).cell (p := ⟨y.β p, 0, none⟩) hl]
    exact c0
  have hfz : ∀ o, (w.alloc (.map #[] 0)).frozen? ⟨y.β p, o, none⟩ = false := fun o => by
    have hl : y.β p < w.heap.size := by obtain ⟨c, t, hb, _⟩ := h.kβ hp; exact lt_of_blk hb
    rw [((Below.refl w.heap.size w).alloc (Nat.le_refl _) _).frozen (p := ⟨y.β p, o, none⟩) hl]
    exact fz o
  clear h hT hTE hp hout hmb hmp hkr hway hns hW0 k0 hmb0 hμ
  obtain ⟨W1, hW1⟩ : ∃ z, W0.alloc (.cells #[.map none, .slice none 0 0] 78) = z := ⟨_, rfl⟩
  have HW1 : Hid (W0.alloc (.cells #[.map none, .slice none 0 0] 78) = W1) := hW1
  have hb1 : Below W0.heap.size W0 W1 := by rw [← hW1]; exact (Below.refl _ _).alloc (Nat.le_refl _) _
  have HX1 : Hid (W1.heap[W0.heap.size]? = some (.cells #[.map none, .slice none 0 0] 78 (0, 0))) := by show _ = _; rw [← hW1]; exact heap_alloc_new _ _
  have HB1 : Hid (Below W0.heap.size W0 W1) := hb1
  have d0 : W1.cell? ⟨y.β p, 0, none⟩ = some (.map (some mb)) := by rw [hb1.cell (p := ⟨y.β p, 0, none⟩) hpl]; exact k0'
  clear hW1 hb1
  go_enter Tryz.func66, Tryz.ntmps66
  go_upto_region 3 with fail
  rw [HW0.out, HMB.out]
  clear hal hfz c0 c1 fz hq hmm
  go_upto_region 6 with fail
  rw [HW1.out]
  clear hlk k0'
  go_region_held3 (fun w' => w'.cell? ⟨y.β p, 0, none⟩ = some (.map (some mb))) (first | go_keep | exact d0 | exact d3)
    (first
      | (go_at_call 37; refine (xclone_any n hcl _).mono ?_; rintro e w2 ⟨rfl, hb2⟩
         clear d0
         have HB2 : Hid (Below W0.heap.size W0 w2) := xtrans2 HB1.out (of_drew hb2)
         have HX2 : Hid (w2.heap[W0.heap.size]? = some (.cells #[.map none, .slice none 0 0] 78 (0, 0))) := kept_block (of_drew hb2) HX1.out
         have d0 : w2.cell? ⟨y.β p, 0, none⟩ = some (.map (some mb)) := by rw [HB2.out.cell (p := ⟨y.β p, 0, none⟩) hpl]; exact HC0.out
         obtain ⟨W3, hup, hm3, hc3⟩ := kids_put (map_below HMP.out HB2.out) HSZ.out HN.out W0.heap.size
         have HM3 : Hid _ := hm3
         have HC3 : Hid _ := hc3
         have d3 : W3.cell? ⟨y.β p, 0, none⟩ = some (.map (some mb)) := by rw [World.cell?_of_block (w := w2) (hc3.block _ (Nat.lt_of_lt_of_le hpl HB2.out.size) HNE.out)]; exact d0
         clear hm3 hc3 hb2))
  go_wp2_with fail
  go_ret
  obtain ⟨y', he, hT', hE'⟩ := HE.out W3 W0.heap.size (Nat.le_refl _) ((HC3.out.block _ (lt_of_blk HX2.out) (HNB.out)).trans HX2.out) (Chg.beh HB2.out HC3.out) HM3.out
  exact ⟨y', he, hT', TrE.trans HTE.out hE' (fun q hq _ => hq)⟩
theorem kid_any (w : World) (y : Lay) (D : List Way) (hs : List He) (p : Way) (n : ByteArray) (h : Tr w y D hs) (hp : p ∈ D) (hns : n.size ≤ 1000) (hway : ∀ x ∈ hs, x.way ∈ D) (hD : D.length ≤ 100000) :
    Calls Tryz.prog 66 #[ndV (y.β p), .string n] w (Kid w y D hs p n) := by
  by_cases hin : p ++ [n] ∈ D
  · exact kid_there w y D hs p n h hp hns hin
  · cases hm : y.μ p with
    | none => exact kid_first w y D hs p n h hp hns hin hway hD hm
    | some mb => exact kid_new w y D hs p n h hp hns hin hway hD mb hm
end Go.Proofs.YtbblckcjedjbcaaGreatDoor
namespace Go.Proofs.YtbblckcjedjbcaaGreatDoor
open Go.RowKit Go.Maps
set_option linter.unusedVariables false
set_option linter.unusedSimpArgs false

/-- Names in memory, from some cell on. -/
def NsAt (w : World) (a : Option Addr) (c : Nat) (ns : List ByteArray) : Prop :=
  c = ns.length ∧ (ns = [] ∨ ∃ b o cur, a = some ⟨b, o, none⟩ ∧ w.heap[b]? = some (.cells cur 9 (0, 0)) ∧ ∀ (j : Nat) (x : ByteArray), ns[j]? = some x → cur[o + j]? = some (.string x))
theorem NsAt.of {w : World} {B : Nat} {a : Option Addr} {c : Nat} {ns : List ByteArray} (h : Own B w a c ns) : NsAt w a c ns := by
  rcases h with ⟨rfl, _, rfl⟩ | ⟨_, b, rfl, rfl, _, hb⟩
  · exact ⟨rfl, .inl rfl⟩
  · exact ⟨rfl, .inr ⟨b, 0, _, rfl, hb, fun j x hx => by rw [Nat.zero_add, List.getElem?_toArray, List.getElem?_map, hx]; rfl⟩⟩
theorem NsAt.chg {w w' : World} {a : Option Addr} {c : Nat} {ns : List ByteArray} {S : Nat → Prop} (h : NsAt w a c ns) (hc : Chg w w' S) (hS : ∀ b cur, w.heap[b]? = some (.cells cur 9 (0, 0)) → ¬ S b) : NsAt w' a c ns := by
  obtain ⟨h1, h2⟩ := h
  refine ⟨h1, ?_⟩
  rcases h2 with h2 | ⟨b, o, cur, e, hb, hx⟩
  · exact .inl h2
  · exact .inr ⟨b, o, cur, e, by rw [hc.block b (lt_of_blk hb) (hS b cur hb)]; exact hb, hx⟩
theorem NsAt.below {w w' : World} {a : Option Addr} {c : Nat} {ns : List ByteArray} (h : NsAt w a c ns) (hb : Below w.heap.size w w') : NsAt w' a c ns := h.chg (Chg.of_below hb (fun _ => False)) (fun _ _ _ => id)
theorem NsAt.head {w : World} {a : Option Addr} {c : Nat} {n : ByteArray} {r : List ByteArray} (h : NsAt w a c (n :: r)) : c = r.length + 1 ∧ ∃ b o cur, a = some ⟨b, o, none⟩ ∧ w.heap[b]? = some (.cells cur 9 (0, 0)) ∧ w.cell? ⟨b, o, none⟩ = some (.string n) := by
  obtain ⟨h1, h2⟩ := h
  refine ⟨h1, ?_⟩
  rcases h2 with h2 | ⟨b, o, cur, e, hb, hx⟩
  · cases h2
  · refine ⟨b, o, cur, e, hb, ?_⟩
    have := hx 0 n rfl
    simp [World.cell?, hb]
    simpa using this
theorem size9 (w : World) : (Go.sizeOf 9).run Tryz.prog w = .ok 1 w := by kernel_rfl
theorem slice_tail (A : Option Addr) (m : Nat) (w : World) (hm : m ≤ 100000) : (Instr.slice 87 (.slice A (m + 1) (m + 1)) (some (.int .i64 1)) none none).run Tryz.prog w = .ok (.slice (if m = 0 then A else A.map (·.add 1)) m m) w := by
  have h1 : (1 : Int) ≤ (m : Int) + 1 := by omega
  have h2 : (0 : Int) ≤ 1 := by omega
  simp [Instr.slice, Instr.sliceBounds, Instr.sliceBound, run_underlying Tryz.underlying87, size9, asIntOf, h1]
theorem NsAt.tail {w : World} {a : Option Addr} {c : Nat} {n : ByteArray} {r : List ByteArray} (h : NsAt w a c (n :: r)) : NsAt w (if r.length = 0 then a else a.map (·.add 1)) r.length r := by
  obtain ⟨h1, h2⟩ := h
  refine ⟨rfl, ?_⟩
  rcases h2 with h2 | ⟨b, o, cur, rfl, hb, hx⟩
  · cases h2
  · cases r with
    | nil => exact .inl rfl
    | cons m r => exact .inr ⟨b, o + 1, cur, by simp [addr_add], hb, fun j x hj => by have := hx (j + 1) x (by simpa using hj); rw [show o + 1 + j = o + (j + 1) by omega]; exact this⟩
/-- A row of texts is none of the tree's. -/
theorem Tr.w9 {w : World} {y : Lay} {D : List Way} {hs : List He} (h : Tr w y D hs) {b : Nat} {cur : Array Value} (hb : w.heap[b]? = some (.cells cur 9 (0, 0))) : ¬ Wt y D b := by
  rintro (⟨p, hp, rfl⟩ | ⟨p, hp, hk⟩ | ⟨p, hp, hk⟩)
  · obtain ⟨c1, t, h1, ht⟩ := h.kβ hp
    rw [h1] at hb
    simp only [Option.some.injEq, Obj.cells.injEq] at hb
    rcases ht with rfl | rfl
    · exact absurd hb.2.1 (by decide)
    · exact absurd hb.2.1 (by decide)
  · obtain ⟨es, c, h1⟩ := h.kμ hp hk
    rw [h1] at hb
    cases hb
  · obtain ⟨c1, h1⟩ := h.kρ hp hk
    rw [h1] at hb
    simp only [Option.some.injEq, Obj.cells.injEq] at hb
    exact absurd hb.2.1 (by decide)
/-- A held watch is none of what may be written. -/
theorem Tr.wh {w : World} {y : Lay} {D : List Way} {hs : List He} (h : Tr w y D hs) {x : He} (hx : HdAt w x) : ¬ Wt y D x.b := by
  rintro (⟨p, hp, e⟩ | ⟨p, hp, hk⟩ | ⟨p, hp, hk⟩)
  · exact h.hβ hp hx e.symm
  · exact h.hμ hp hx hk rfl
  · exact h.hρ hp hx hk rfl
def addW (D : List Way) (p : Way) : List ByteArray → List Way
  | [] => D
  | n :: r => addW (addD D (p ++ [n])) (p ++ [n]) r
theorem addD_mem {D : List Way} {q r : Way} : r ∈ addD D q ↔ r ∈ D ∨ r = q := by
  by_cases h : q ∈ D
  · rw [addD_in h]
    constructor
    · exact .inl
    · rintro (h1 | rfl)
      · exact h1
      · exact h
  · rw [addD_out h]
    simp
theorem addD_len (D : List Way) (q : Way) : (addD D q).length ≤ D.length + 1 := by
  unfold addD
  split <;> simp
theorem addW_mem {D : List Way} {p : Way} {ns : List ByteArray} {q : Way} (h : q ∈ D) : q ∈ addW D p ns := by
  induction ns generalizing D p with
  | nil => exact h
  | cons n r ih => exact ih (addD_mem.2 (.inl h))
theorem addW_end {D : List Way} {p : Way} {ns : List ByteArray} (h : p ∈ D) : p ++ ns ∈ addW D p ns := by
  induction ns generalizing D p with
  | nil => rw [List.append_nil]; exact h
  | cons n r ih =>
    have := ih (D := addD D (p ++ [n])) (p := p ++ [n]) (addD_mem.2 (.inr rfl))
    rw [List.append_assoc] at this
    exact this
theorem here_ins {h : He} {hs : List He} (ho : Ord hs) (q : Way) : here (insH h hs) q = if h.way = q then insH h (here hs q) else here hs q := by
  unfold here
  rw [ins_filter _ _ ho]
  by_cases e : h.way = q
  · simp [e]
  · simp [e]
theorem owns_shape {w : World} {B e s n : Nat} {v : Value} {xs : List Value} (h : w.ownsRow B e s v n xs) : ∃ a c, v = .slice a n c := by
  rcases h.2 with ⟨rfl, rfl⟩ | ⟨g, cap, cur, hv, _⟩
  · exact ⟨none, 0, rfl⟩
  · exact ⟨_, cap, hv⟩
set_option maxHeartbeats 6400000 in
theorem add_end (w : World) (y : Lay) (D : List Way) (hs : List He) (p : Way) (a : Option Addr) (h : He) (hT : Tr w y D hs) (hp : p ∈ D) (hl : hs.length ≤ 100000) (hh : HdAt w h) (hw : h.way = p) (hn : ∀ x ∈ hs, ¬ (x.s = h.s ∧ x.i = h.i)) :
    Calls Tryz.prog 39 #[ndV (y.β p), .slice a 0 0, h.ptr] w fun e w' => e = .returned (.tuple #[]) ∧ ∃ y', Tr w' y' D (insH h hs) ∧ TrE w w' y y' D D := by
  obtain ⟨a', c', hρ, hHl⟩ := hT.hl hp
  have hlen : (here hs p).length ≤ 100000 := Nat.le_trans (List.length_filter_le _ _) hl
  have HWI : Hid _ := with_any a' c' (here hs p) h w hHl hh hlen (hT.ord.filter _)
  have HT : Hid _ := hT
  have HP : Hid (p ∈ D) := hp
  have HRO : Hid (y.ρ p = .slice a' (here hs p).length c') := hρ
  have HHD : Hid (HdAt w h) := hh
  have HW : Hid (h.way = p) := hw
  have HN : Hid _ := hn
  obtain ⟨c0, c1, _, fz⟩ := (hT.nd p hp).cells
  rw [hρ] at c1
  clear hT hp hl hh hw hn hρ hHl hlen
  go_enter Tryz.func39, Tryz.ntmps39
  go_wp2_with fail
  refine Calls.mono HWI.out ?_
  rintro e w1 ⟨v', rfl, ho1, hc1, ha1⟩
  obtain ⟨a3, c3, hv3⟩ := owns_shape ho1
  have hT1 : Tr (w1.setCell ⟨y.β p, 1, none⟩ v') { y with ρ := upd y.ρ p v' } D (insH h hs) := by
    refine HT.out.setRow HP.out v' ?_ ?_ ?_ (fun q hq => ?_) (ins_ord HT.out.ord HN.out) (fun x hx => ?_)
    · rw [HRO.out]; exact hc1
    · rw [here_ins HT.out.ord, if_pos HW.out]; exact ho1
    · rw [HRO.out]; exact ha1
    · rw [here_ins HT.out.ord, if_neg (fun e => hq (by rw [← e]; exact HW.out))]
    · rcases ins_mem.1 hx with rfl | hx
      · exact HHD.out
      · exact HT.out.held x hx
  have hTE : TrE w (w1.setCell ⟨y.β p, 1, none⟩ v') y { y with ρ := upd y.ρ p v' } D D := by
    refine ⟨rfl, fun _ _ _ => rfl, ?_, fun k hk => ?_⟩
    · refine Chg.trans (hc1.mono (fun k _ e => .inr (.inr ⟨p, HP.out, by rw [HRO.out]; exact e⟩))) ((Chg.set w1 ⟨y.β p, 1, none⟩ v').mono (fun k _ e => .inl ⟨p, HP.out, e.symm⟩))
    · rcases hk with ⟨q, hq, e⟩ | ⟨q, hq, e⟩ | ⟨q, hq, e⟩
      · exact .inl (.inl ⟨q, hq, e⟩)
      · exact .inl (.inr (.inl ⟨q, hq, e⟩))
      · have e' : (upd y.ρ p v' q).ownBlock = some k := e
        by_cases e2 : q = p
        · subst e2
          rw [upd_same] at e'
          exact (ha1 k e').imp (fun e3 => .inr (.inr ⟨q, hq, by rw [HRO.out]; exact e3⟩)) id
        · rw [upd_other _ _ e2] at e'
          exact .inl (.inr (.inr ⟨q, hq, e'⟩))
  have HT1 : Hid _ := hT1
  have HTE : Hid _ := hTE
  have hb1 : w1.heap[y.β p]? = w.heap[y.β p]? := hc1.block _ (by obtain ⟨c, t, hb, _⟩ := HT.out.kβ HP.out; exact lt_of_blk hb) (fun e => HT.out.βρ HP.out HP.out (by rw [HRO.out]; exact e) rfl)
  have d1 : w1.cell? ⟨y.β p, 1, none⟩ = some (.slice a' (here hs p).length c') := by rw [World.cell?_of_block (w := w) hb1]; exact c1
  have gz : ∀ o, w1.frozen? ⟨y.β p, o, none⟩ = false := fun o => by rw [World.frozen?_of_block (w := w) hb1]; exact fz o
  clear hT1 hTE ho1 hc1 ha1 hb1 c0 c1 fz
  subst hv3
  go_wp2_with fail
  exact bodyPost_ret (results_none rfl _ _ _) rfl ⟨rfl, _, HT1.out, HTE.out⟩
set_option maxHeartbeats 6400000 in
set_option maxRecDepth 100000 in
theorem add_any : ∀ (ns : List ByteArray) (w : World) (y : Lay) (D : List Way) (hs : List He) (p : Way) (a : Option Addr) (c : Nat) (h : He), Tr w y D hs → p ∈ D → (∀ n ∈ ns, n.size ≤ 1000) → (∀ x ∈ hs, x.way ∈ D) → D.length + ns.length ≤ 100000 → hs.length ≤ 100000 → NsAt w a c ns → HdAt w h → h.way = p ++ ns → (∀ x ∈ hs, ¬ (x.s = h.s ∧ x.i = h.i)) →
    Calls Tryz.prog 39 #[ndV (y.β p), .slice a ns.length c, h.ptr] w fun e w' => e = .returned (.tuple #[]) ∧ ∃ y', Tr w' y' (addW D p ns) (insH h hs) ∧ TrE w w' y y' D (addW D p ns)
  | [], w, y, D, hs, p, a, c, h, hT, hp, hns, hway, hD, hl, hN, hh, hw, hn => by
    have hc : c = 0 := hN.1
    subst hc
    exact add_end w y D hs p a h hT hp hl hh (by rw [hw, List.append_nil]) hn
  | n :: r, w, y, D, hs, p, a, c, h, hT, hp, hns, hway, hD, hl, hN, hh, hw, hn => by
    obtain ⟨hc, b, o, cur9, ha, hb9, hcell⟩ := hN.head
    have hr : r.length ≤ 100000 := by simp at hD; omega
    have HSL : Hid (∀ w, _) := fun w => slice_tail a r.length w hr
    have HK : Hid _ := fun m : Nat => kid_any (w.drewN m) y D hs p n (hT.below ⟨rfl, rfl, rfl, Nat.le_refl _, fun _ _ => rfl⟩) hp (hns n List.mem_cons_self) hway (by omega)
    have HT : Hid _ := hT
    have HN : Hid (NsAt w (if r.length = 0 then a else a.map (·.add 1)) r.length r) := hN.tail
    have HHD : Hid _ := hh
    have HREC : Hid (∀ (w1 : World) (y1 : Lay), Tr w1 y1 (addD D (p ++ [n])) hs → TrE w w1 y y1 D (addD D (p ++ [n])) →
        Calls Tryz.prog 39 #[ndV (y1.β (p ++ [n])), .slice (if r.length = 0 then a else a.map (·.add 1)) r.length r.length, h.ptr] w1 fun e w' => e = .returned (.tuple #[]) ∧ ∃ y', Tr w' y' (addW D p (n :: r)) (insH h hs) ∧ TrE w w' y y' D (addW D p (n :: r))) := fun w1 y1 hT1 hE1 => by
      refine (add_any r w1 y1 (addD D (p ++ [n])) hs (p ++ [n]) _ _ h hT1 (addD_mem.2 (.inr rfl)) (fun m hm => hns m (List.mem_cons_of_mem _ hm)) (fun x hx => addD_mem.2 (.inl (hway x hx))) ?_ hl (HN.out.chg hE1.chg (fun b cur hb => hT.w9 hb)) (hh.chg hE1.chg (hT.wh hh)) ?_ hn).mono ?_
      · have := addD_len D (p ++ [n])
        simp at hD
        omega
      · rw [hw, List.append_assoc]; rfl
      · rintro e w2 ⟨he, y2, hT2, hE2⟩
        exact ⟨he, y2, hT2, hE1.trans hE2 (fun q hq _ => addD_mem.2 (.inl hq))⟩
    have hn0 : ¬ ((r.length : Int) + 1 = 0) := by omega
    have hn1 : (0 : Int) < (r.length : Int) + 1 := by omega
    have HC : Hid (w.cell? ⟨b, o, none⟩ = some (.string n)) := hcell
    have HSTAY : Hid (∀ (w1 : World) (y1 : Lay) (D1 : List Way), TrE w w1 y y1 D D1 → w1.cell? ⟨b, o, none⟩ = some (.string n)) := fun w1 y1 D1 h => by
      rw [World.cell?_of_block (w := w) (h.chg.block b (lt_of_blk hb9) (hT.w9 hb9))]
      exact hcell
    subst ha
    subst hc
    have HDR : Hid (∀ w1 : World, ∀ y1 D1, TrE w.drew w1 y y1 D D1 → TrE w w1 y y1 D D1) := fun w1 y1 D1 h => ⟨h.sig, h.beta, ⟨h.chg.os, h.chg.tape, h.chg.output, h.chg.size, h.chg.block⟩, h.new⟩
    have hHD : HdAt w h := hh
    obtain ⟨A', hA'⟩ : ∃ A', (if r.length = 0 then (some ⟨b, o, none⟩ : Option Addr) else (some (⟨b, o, none⟩ : Addr)).map (·.add 1)) = A' := ⟨_, rfl⟩
    rw [hA'] at HREC
    have hsl : ∀ w, (Instr.slice 87 (.slice (some ⟨b, o, none⟩) (r.length + 1) (r.length + 1)) (some (.int .i64 1)) none none).run Tryz.prog w = .ok (.slice A' r.length r.length) w := fun w => by rw [← hA']; exact HSL.out w
    clear hT hp hns hway hD hl hN hh hw hn hA' hb9
    obtain ⟨M, hM⟩ : ∃ M, r.length = M := ⟨_, rfl⟩
    have HM : Hid (r.length = M) := hM
    rw [List.length_cons]
    rw [hM] at hsl HREC hn0 hn1 ⊢
    clear hM
    go_enter Tryz.func39, Tryz.ntmps39
    go_wp2_with fail
    go_region_held3 (fun w' => w'.cell? ⟨b, o, none⟩ = some (.string n)) (first | go_keep | exact hcell)
      (first
        | (go_at_call 66; refine (HK.out 1).mono ?_; rintro e w1 ⟨y1, rfl, hT1, hE1⟩
           have HRC : Hid _ := HREC.out w1 y1 hT1 (HDR.out _ _ _ hE1)
           clear hcell
           have hcell := HSTAY.out _ _ _ (HDR.out _ _ _ hE1)
           clear hT1 hE1)
        | (go_at_call 39; refine Calls.mono HRC.out ?_; rintro e w2 ⟨rfl, hX⟩
           have HX : Hid _ := hX
           clear hcell
           have hcell : w2.cell? ⟨b, o, none⟩ = some (.string n) := by obtain ⟨y2, _, hE2⟩ := hX; exact HSTAY.out _ _ _ hE2
           clear hX))
    go_wp2_with fail
    go_end0
    exact ⟨rfl, HX.out⟩
end Go.Proofs.YtbblckcjedjbcaaGreatDoor
