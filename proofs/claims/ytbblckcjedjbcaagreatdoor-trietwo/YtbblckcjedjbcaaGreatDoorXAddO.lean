import Derived.Test.YtbblckcjedjbcaaGreatDoorXTrie
namespace Go.Proofs.YtbblckcjedjbcaaGreatDoor
open Go.RowKit Go.Maps
set_option linter.unusedVariables false
set_option linter.unusedSimpArgs false

theorem addW_iff {D : List Way} {p : Way} {ns : List ByteArray} {q : Way} : q ∈ addW D p ns ↔ q ∈ D ∨ ∃ r, r <+: ns ∧ r ≠ [] ∧ q = p ++ r := by
  induction ns generalizing D p with
  | nil =>
    constructor
    · exact .inl
    · rintro (h | ⟨r, h, hne, _⟩)
      · exact h
      · exact absurd (List.prefix_nil.1 h) hne
  | cons n ns ih =>
    show q ∈ addW (addD D (p ++ [n])) (p ++ [n]) ns ↔ _
    rw [ih, addD_mem]
    constructor
    · rintro ((h | h) | ⟨r, h, hne, e⟩)
      · exact .inl h
      · exact .inr ⟨[n], ⟨ns, rfl⟩, by simp, h⟩
      · exact .inr ⟨n :: r, by rw [List.cons_prefix_cons]; exact ⟨rfl, h⟩, by simp, by rw [e, List.append_assoc]; rfl⟩
    · rintro (h | ⟨r, h, hne, e⟩)
      · exact .inl (.inl h)
      · cases r with
        | nil => exact absurd rfl hne
        | cons m r =>
          rw [List.cons_prefix_cons] at h
          obtain ⟨rfl, h⟩ := h
          by_cases hr : r = []
          · subst hr
            exact .inl (.inr e)
          · exact .inr ⟨r, h, hr, by rw [e, List.append_assoc]; rfl⟩
/-- The sessions' blocks are none of the tree's. -/
theorem apart {w : World} {y : Lay} {D : List Way} {σ : Option Nat} {τ : Int → Value} {hs hs' : List He} (hT : Tr w y D hs) (hS : SesAt w σ τ hs') (hρ : ∀ s, ∀ p ∈ D, ∀ k, (τ s).ownBlock = some k → (y.ρ p).ownBlock ≠ some k) (hμ : ∀ p ∈ D, ∀ k, σ = some k → y.μ p ≠ some k) {k : Nat} (hk : Sf σ τ k) : ¬ Ft y D hs k := by
  rintro ((⟨p, hp, e⟩ | ⟨p, hp, e⟩ | ⟨p, hp, e⟩) | ⟨x, hx, e⟩)
  · obtain ⟨cur, t, h1, ht⟩ := hT.kβ hp
    rw [e] at h1
    rcases hk with hk | ⟨s, hk⟩
    · obtain ⟨es, c, h2⟩ := hS.kσ hk
      rw [h1] at h2
      cases h2
    · obtain ⟨c2, h2⟩ := hS.kτ hk
      rw [h1] at h2
      simp only [Option.some.injEq, Obj.cells.injEq] at h2
      rcases ht with rfl | rfl
      · exact absurd h2.2.1 (by decide)
      · exact absurd h2.2.1 (by decide)
  · rcases hk with hk | ⟨s, hk⟩
    · exact hμ p hp k hk e
    · obtain ⟨c2, h2⟩ := hS.kτ hk
      obtain ⟨es, c, h1⟩ := hT.kμ hp e
      rw [h1] at h2
      cases h2
  · rcases hk with hk | ⟨s, hk⟩
    · obtain ⟨es, c, h2⟩ := hS.kσ hk
      obtain ⟨c1, h1⟩ := hT.kρ hp e
      rw [h1] at h2
      cases h2
    · exact hρ s p hp k hk e
  · have h1 := hT.held x hx
    unfold HdAt at h1
    rw [e] at h1
    rcases hk with hk | ⟨s, hk⟩
    · obtain ⟨es, c, h2⟩ := hS.kσ hk
      rw [h1] at h2
      cases h2
    · obtain ⟨c2, h2⟩ := hS.kτ hk
      rw [h1] at h2
      simp only [Option.some.injEq, Obj.cells.injEq] at h2
      exact absurd h2.2.1 (by decide)
theorem TrieAt.apart {w : World} {B : Nat} {y : Lay} {D : List Way} {σ : Option Nat} {τ : Int → Value} {hs : List He} (h : TrieAt w B y D σ τ hs) {k : Nat} (hk : Sf σ τ k) : ¬ Ft y D hs k := Go.Proofs.YtbblckcjedjbcaaGreatDoor.apart h.tr h.ses h.sρ h.sμ hk
/-- What stands behind the root is another thing. -/
theorem Tr.setSig {w : World} {y : Lay} {D : List Way} {hs : List He} (h : Tr w y D hs) (v : Value) : Tr (w.setCell ⟨y.β [], 2, none⟩ v) { y with σ := v } D hs := by
  have hc2 : Chg w (w.setCell ⟨y.β [], 2, none⟩ v) (fun k => k = y.β []) := Chg.set _ _ _
  refine ⟨h.ord, h.root, h.up, h.dn, h.sml, h.inj, fun q hq => ?_, fun q hq => ?_, h.rap, fun q hq => ?_, h.map, fun x hx => ?_⟩
  · by_cases e : q = []
    · subst e
      obtain ⟨cur, h1, h2, h3, h4⟩ := h.nd [] hq
      have h1s : 2 < cur.size := (Array.getElem?_eq_some_iff.1 (h4 rfl)).1
      refine ⟨cur.setIfInBounds 2 v, heap_setCell_same w _ 2 cur _ v h1, ?_, ?_, fun e => ?_⟩
      · rw [Array.getElem?_setIfInBounds_ne (by decide)]; exact h2
      · rw [Array.getElem?_setIfInBounds_ne (by decide)]; exact h3
      · rw [Array.getElem?_setIfInBounds_self_of_lt h1s]
    · obtain ⟨cur, h1, h2, h3, _⟩ := (h.nd q hq).chg hc2 (fun e' => e (h.inj q hq [] h.root e'))
      exact ⟨cur, h1, h2, h3, fun e' => absurd e' e⟩
  · exact owns_chg (h.row q hq) hc2 (fun k hk e' => h.βρ h.root hq hk e'.symm)
  · exact (h.kids q hq).chg hc2 (fun k hk e => h.βμ h.root hq hk e.symm)
  · exact (h.held x hx).chg hc2 (h.hβ h.root (h.held x hx))
set_option maxHeartbeats 3200000 in
theorem names_any (h : He) (w : World) (hh : HdAt w h) (hg : Ground w) (hp : parse h.p = (0, h.way)) :
    Calls Tryz.prog 40 #[h.ptr] w fun e w' => ∃ a c, e = .returned (.slice a h.way.length c) ∧ NsAt w' a c h.way ∧ Below w.heap.size w w' := by
  have HPA : Hid (Calls Tryz.prog 30 #[.string h.p] w fun e w' => ∃ a c, e = .returned (.tuple #[.slice a h.way.length c, .int .i64 0]) ∧ NsAt w' a c h.way ∧ Below w.heap.size w w') := by
    refine (parse_any h.p w hg).mono ?_
    rintro e w' ⟨a, c, he, ho, hb⟩
    rw [hp] at he ho
    exact ⟨a, c, he, NsAt.of ho, hb⟩
  obtain ⟨x0, x1, x2, x3, x4⟩ := cells_5 hh
  clear hh hg hp
  go_enter Tryz.func40, Tryz.ntmps40
  go_wp2_with (first | (go_at_call 30; refine Calls.mono HPA.out ?_; rintro e w1 ⟨a, c, rfl, hn, hb⟩; (have HN : Hid _ := hn); (have HB : Hid _ := hb); clear hn hb) | fail)
  go_ret
  exact ⟨a, c, rfl, HN.out, HB.out⟩
/-- A new watch's names are small. -/
theorem way_small {p : ByteArray} {xs : List ByteArray} (h : parse p = (0, xs)) : ∀ n ∈ xs, n.size ≤ 1000 := by
  intro n hn
  have h1 := List.all_eq_true.1 (parse_len h).2 n hn
  unfold isNm at h1
  simp only [Bool.and_eq_true, decide_eq_true_eq] at h1
  omega
end Go.Proofs.YtbblckcjedjbcaaGreatDoor
namespace Go.Proofs.YtbblckcjedjbcaaGreatDoor
open Go.RowKit Go.Maps
set_option linter.unusedVariables false
set_option linter.unusedSimpArgs false

theorem Ground.chg {w w' : World} {S : Nat → Prop} (h : Ground w) (hc : Chg w w' S) (h0 : ¬ S 0) (h1 : ¬ S 1) : Ground w' where
  tab i hi := by
    have e := h.tab i hi
    rw [World.cell?_of_block (w := w) (hc.block _ (World.block_lt_of_cell? _ _ e) h0)]
    exact e
  most := by
    obtain ⟨m, e⟩ := h.most
    exact ⟨m, by rw [World.cell?_of_block (w := w) (hc.block _ (World.block_lt_of_cell? _ _ e) h1)]; exact e⟩
/-- What a turn of the whole trie leaves. -/
structure TfE (w w' : World) (y y' : Lay) (D D' : List Way) (σ σ' : Option Nat) (τ τ' : Int → Value) : Prop where
  chg : Chg w w' (Tf y D σ τ)
  new : ∀ k, Tf y' D' σ' τ' k → Tf y D σ τ k ∨ w.heap.size ≤ k
theorem ofS_ins {h : He} {hs : List He} (ho : Ord hs) (t : Int) : ofS (insH h hs) t = if h.s = t then insH h (ofS hs t) else ofS hs t := by
  unfold ofS
  rw [ins_filter _ _ ho]
  by_cases e : h.s = t
  · simp [e]
  · simp [e]
/-- A watch is in the tree and not yet among the sessions' lists; the map of these is there: what the last step makes of it. -/
theorem add_last {w w4 w5 : World} {B : Nat} {y y5 : Lay} {D D5 : List Way} {σ : Option Nat} {sb : Nat} {τ : Int → Value} {hs : List He} {h : He} (hT5 : Tr w5 y5 D5 (insH h hs)) (htop : y5.β [] = B) (hsig : y5.σ = .map (some sb)) (hS5 : SesAt w5 (some sb) τ hs)
    (hρ : ∀ s, ∀ p ∈ D5, ∀ k, (τ s).ownBlock = some k → (y5.ρ p).ownBlock ≠ some k) (hμ : ∀ p ∈ D5, ∀ k, some sb = some k → y5.μ p ≠ some k) (hok : ∀ x ∈ insH h hs, parse x.p = (0, x.way)) (hcls : ∀ q, q ∈ D5 ↔ q = [] ∨ ∃ x ∈ insH h hs, q <+: x.way) (ho : Ord hs) (hlen : hs.length ≤ 1000)
    (hwf : wfI h.s) {w7 : World} (v' : Value) (hc7 : Chg w5 w7 (fun k => (τ h.s).ownBlock = some k)) (ho7 : w7.ownsRow 0 91 1 v' (insH h (ofS hs h.s)).length (ptrs (insH h (ofS hs h.s)))) (ha7 : ∀ k, v'.ownBlock = some k → (τ h.s).ownBlock = some k ∨ w5.heap.size ≤ k) :
    ∃ w8, (Instr.mapUpdate 79 (.map (some sb)) (.int .i64 h.s) v').run Tryz.prog w7 = .ok () w8 ∧ TrieAt w8 B y5 D5 (some sb) (updI τ h.s v') (insH h hs) ∧ Chg w5 w8 (Sf (some sb) τ) ∧ (∀ k, Sf (some sb) (updI τ h.s v') k → Sf (some sb) τ k ∨ w5.heap.size ≤ k) := by
  obtain ⟨Dm, hm, hsr⟩ : ∃ Dm, w5.ownsMap Tryz.prog 3 raw sb (Maps.size Dm) Dm ∧ SR Dm τ hs := by
    rcases hS5.map with ⟨h1, _⟩ | ⟨b, Dm, h1, h2, h3⟩
    · cases h1
    · cases h1; exact ⟨Dm, h2, h3⟩
  have hsz : Maps.size Dm ≤ 1000000 := by have := hsr.size; omega
  obtain ⟨w8, hrun, hS8, hc8⟩ := hS5.put (hs' := insH h hs) rfl hm hsr hsz hwf v' hc7 (by rw [ofS_ins ho, if_pos rfl]; exact ho7) ha7 (fun t ht => by rw [ofS_ins ho, if_neg (fun e => ht e.symm)]) ⟨h, ins_mem.2 (.inl rfl), rfl⟩
  have hch : Chg w5 w8 (Sf (some sb) τ) := (hc7.mono (fun k _ e => .inr ⟨h.s, e⟩)).trans (hc8.mono (fun k _ e => .inl (by rw [e])))
  refine ⟨w8, hrun, ⟨hT5.chg hch (fun k hk hs => Go.Proofs.YtbblckcjedjbcaaGreatDoor.apart hT5 hS5 hρ hμ hs hk), htop, hsig, hS8, fun s p hp k hk hk' => ?_, hμ, hok, hcls⟩, hch, fun k hk => ?_⟩
  · by_cases e : s = h.s
    · subst e
      rw [updI_same] at hk
      rcases ha7 k hk with e | e
      · exact hρ h.s p hp k e hk'
      · have := ((hT5.row p hp).lt k hk').2
        omega
    · rw [updI_other _ _ e] at hk
      exact hρ s p hp k hk hk'
  · rcases hk with hk | ⟨s, hk⟩
    · exact .inl (.inl hk)
    · by_cases e : s = h.s
      · subst e
        rw [updI_same] at hk
        exact (ha7 k hk).imp (fun e => .inr ⟨_, e⟩) id
      · rw [updI_other _ _ e] at hk
        exact .inl (.inr ⟨s, hk⟩)
/-- What Add leaves. -/
def Added (w : World) (B : Nat) (y : Lay) (D : List Way) (σ : Option Nat) (τ : Int → Value) (hs : List He) (s i : Int) (p : ByteArray) (k f : Int) (w' : World) : Prop :=
  ∃ b y' D' σ' τ', w.heap.size ≤ b ∧ TrieAt w' B y' D' σ' τ' (insH ⟨b, s, i, p, k, f⟩ hs) ∧ TfE w w' y y' D D' σ σ' τ τ'
theorem mayL_ok {l : List He} {s i : Int} {p : ByteArray} {k f : Int} (h : mayL l false s i p k f = 0) : (parse p).1 = 0 ∧ hasH l s i = false ∧ l.length < 4 ∧ numsB s i f = false ∧ 1 ≤ k ∧ k ≤ 3 := by
  unfold mayL at h
  split at h
  · cases h
  · split at h
    · cases h
    · split at h
      · cases h
      · split at h
        · cases h
        · rename_i h1 h2 h3 h4
          refine ⟨by simpa using h2, ?_, ?_, by simpa using h1, ?_, ?_⟩
          · rw [Bool.eq_false_iff]; exact fun e => h3 (.inr (.inr e))
          · rw [Nat.lt_iff_add_one_le]; have : ¬ 4 ≤ l.length := fun e => h4 (.inr e); omega
          · have : ¬ k < 1 := fun e => h3 (.inl e); omega
          · have : ¬ k > 3 := fun e => h3 (.inr (.inl e)); omega
theorem cells_held (w : World) (s i : Int) (p : ByteArray) (k f : Int) : HdAt (w.alloc (.cells #[.int .i64 s, .int .i64 i, .string p, .int .i64 k, .int .i64 f] 98)) ⟨w.heap.size, s, i, p, k, f⟩ := heap_alloc_new _ _
theorem parse_way {b : Nat} {s i : Int} {p : ByteArray} {k f : Int} (h : (parse p).1 = 0) : parse p = (0, He.way ⟨b, s, i, p, k, f⟩) := by
  unfold He.way
  rw [← h]
theorem psize {p : ByteArray} (h : (parse p).1 = 0) : p.size ≤ 102 := by
  by_cases h1 : 102 < p.size
  · rw [parse_long h1] at h; cases h
  · omega
theorem lenS {hs : List He} (s : Int) : (ofS hs s).length ≤ hs.length := List.length_filter_le _ _
set_option maxHeartbeats 16000000 in
set_option maxRecDepth 100000 in
theorem add_no (w : World) (B : Nat) (y : Lay) (D : List Way) (σ : Option Nat) (τ : Int → Value) (hs : List He) (s i : Int) (p : ByteArray) (k f : Int) (hT : TrieAt w B y D σ τ hs) (hg : Ground w) (hlen : hs.length ≤ 1000) (hwf : wfI s) (hne : mayL (ofS hs s) false s i p k f ≠ 0) :
    Calls Tryz.prog 16 #[ndV B, .int .i64 s, watV i p k f] w fun e w' => e = .returned (.int .i64 (mayL (ofS hs s) false s i p k f)) ∧ Below w.heap.size w w' := by
  have hb0 : Below w.heap.size w (w.alloc (.cells #[.int .i64 i, .string p, .int .i64 k, .int .i64 f] 40)) := (Below.refl _ _).alloc (Nat.le_refl _) _
  obtain ⟨b0, b1, b2, b3⟩ := cells_4 (heap_alloc_new w (.cells #[.int .i64 i, .string p, .int .i64 k, .int .i64 f] 40))
  obtain ⟨a, c, hτ, hl⟩ := hT.ses.hl (fun x hx => hT.tr.held x hx) s
  have HM : Hid _ := may_some B (w.alloc (.cells #[.int .i64 i, .string p, .int .i64 k, .int .i64 f] 40)) s i p k f a c (ofS hs s) (hg.below hb0) (fun w1 hb => by rw [← hτ]; exact of_any w1 B y D σ τ hs s ((hT.below hb0).below hb) hwf) (hl.below hb0) (by have := lenS (hs := hs) s; omega) (hT.tr.ord.filter _)
  obtain ⟨code, hcode⟩ : ∃ code, mayL (ofS hs s) false s i p k f = code := ⟨_, rfl⟩
  rw [hcode] at HM hne ⊢
  have HB0 : Hid _ := hb0
  clear hT hg hlen hwf hb0 hτ hl hcode
  go_enter Tryz.func16, Tryz.ntmps16
  go_wp2_with (first | (go_at_call 38; refine Calls.mono HM.out ?_; rintro e w1 ⟨rfl, hb1⟩; (have HB1 : Hid _ := xtrans2 HB0.out hb1); clear hb1 b0 b1 b2 b3) | fail)
  go_ret
  exact ⟨rfl, HB1.out⟩
end Go.Proofs.YtbblckcjedjbcaaGreatDoor
namespace Go.Proofs.YtbblckcjedjbcaaGreatDoor
open Go.RowKit Go.Maps
set_option linter.unusedVariables false
set_option linter.unusedSimpArgs false

/-- The watch h is in the tree, the map of the sessions is there. -/
structure Mid (w W : World) (B : Nat) (y : Lay) (D : List Way) (σ : Option Nat) (τ : Int → Value) (hs : List He) (h : He) (y7 : Lay) (sb : Nat) : Prop where
  tr : Tr W y7 (addW D [] h.way) (insH h hs)
  top : y7.β [] = B
  sig : y7.σ = .map (some sb)
  ses : SesAt W (some sb) τ hs
  rho : ∀ s, ∀ p ∈ addW D [] h.way, ∀ k, (τ s).ownBlock = some k → (y7.ρ p).ownBlock ≠ some k
  mu : ∀ p ∈ addW D [] h.way, ∀ k, some sb = some k → y7.μ p ≠ some k
  chg : Chg w W (Tf y D σ τ)
  new : ∀ k, Tf y7 (addW D [] h.way) (some sb) τ k → Tf y D σ τ k ∨ w.heap.size ≤ k
theorem mid_some {w w5 w6 : World} {B : Nat} {y y6 : Lay} {D : List Way} {τ : Int → Value} {hs : List He} {h : He} {sb : Nat} (hT : TrieAt w B y D (some sb) τ hs) (hb : Below w.heap.size w w5) (hT6 : Tr w6 y6 (addW D [] h.way) (insH h hs)) (hE : TrE w5 w6 y y6 D (addW D [] h.way)) : Mid w w6 B y D (some sb) τ hs h y6 sb := by
  have hap : ∀ k, Sf (some sb) τ k → ¬ Wt y D k := fun k hk hw => hT.apart hk (.inl hw)
  have hlt : ∀ k, Sf (some sb) τ k → k < w.heap.size := fun k hk => hT.ses.lt hk
  have hnw : ∀ k, Sf (some sb) τ k → ¬ Wt y6 (addW D [] h.way) k := fun k hk hw => by
    rcases hE.new k hw with e | e
    · exact hap k hk e
    · have := hlt k hk
      have := hb.size
      omega
  refine ⟨hT6, ?_, hE.sig.trans hT.sig, (hT.ses.below hb).chg hE.chg (fun k hk => hap k hk), fun s p hp k hk hk' => hnw k (.inr ⟨s, hk⟩) (.inr (.inr ⟨p, hp, hk'⟩)), fun p hp k hk hk' => hnw k (.inl hk) (.inr (.inl ⟨p, hp, hk'⟩)), ?_, fun k hk => ?_⟩
  · rw [hE.beta [] hT.tr.root (addW_mem hT.tr.root), hT.top]
  · exact (Chg.beh hb hE.chg).mono (fun k _ e => .inl e)
  · rcases hk with hk | hk
    · exact (hE.new k hk).imp (fun e => .inl e) (fun e => Nat.le_trans hb.size e)
    · exact .inl (.inr hk)
theorem mid_none {w w5 w6 : World} {B : Nat} {y y6 : Lay} {D : List Way} {τ : Int → Value} {hs : List He} {h : He} (hT : TrieAt w B y D none τ hs) (hb : Below w.heap.size w w5) (hT6 : Tr w6 y6 (addW D [] h.way) (insH h hs)) (hE : TrE w5 w6 y y6 D (addW D [] h.way)) :
    Mid w ((w6.alloc (.map #[] 0)).setCell ⟨B, 2, none⟩ (.map (some w6.heap.size))) B y D none τ hs h { y6 with σ := .map (some w6.heap.size) } w6.heap.size := by
  have htop : y6.β [] = B := by rw [hE.beta [] hT.tr.root (addW_mem hT.tr.root), hT.top]
  have hap : ∀ k, Sf none τ k → ¬ Wt y D k := fun k hk hw => hT.apart hk (.inl hw)
  have hlt : ∀ k, Sf none τ k → k < w.heap.size := fun k hk => hT.ses.lt hk
  have h56 : w5.heap.size ≤ w6.heap.size := hE.chg.size
  have hnw : ∀ k, Sf none τ k → ¬ Wt y6 (addW D [] h.way) k := fun k hk hw => by
    rcases hE.new k hw with e | e
    · exact hap k hk e
    · have := hlt k hk
      have := hb.size
      omega
  have hba : Below w6.heap.size w6 (w6.alloc (.map #[] 0)) := (Below.refl _ _).alloc (Nat.le_refl _) _
  have hS6 : SesAt w6 none τ hs := (hT.ses.below hb).chg hE.chg (fun k hk => hap k hk)
  have hSm := hS6.made
  have hc2 : Chg (w6.alloc (.map #[] 0)) ((w6.alloc (.map #[] 0)).setCell ⟨B, 2, none⟩ (.map (some w6.heap.size))) (fun k => k = B) := Chg.set _ _ _
  have hB6 : B < w6.heap.size := by
    obtain ⟨c, t, hx, _⟩ := hT6.kβ (addW_mem hT.tr.root)
    rw [htop] at hx
    exact lt_of_blk hx
  have hBW : Wt y6 (addW D [] h.way) B := .inl ⟨[], addW_mem hT.tr.root, htop⟩
  have hTs := (hT6.below hba).setSig (.map (some w6.heap.size))
  rw [htop] at hTs
  refine ⟨hTs, htop, rfl, hSm.chg hc2 (fun k hk e => ?_), fun s p hp k hk hk' => hnw k (.inr ⟨s, hk⟩) (.inr (.inr ⟨p, hp, hk'⟩)), fun p hp k hk hk' => ?_, ?_, fun k hk => ?_⟩
  · subst e
    rcases hk with hk | ⟨s, hk⟩
    · cases hk; exact Nat.lt_irrefl _ hB6
    · exact hnw _ (.inr ⟨s, hk⟩) hBW
  · cases hk
    have := hT6.lt (.inl (.inr (.inl ⟨p, hp, hk'⟩)))
    omega
  · refine Chg.trans ((Chg.beh hb hE.chg).mono (fun k _ e => .inl e)) (Chg.trans (Chg.of_below hba _) (hc2.mono (fun k _ e => ?_)))
    subst e
    exact .inl (.inl ⟨[], hT.tr.root, hT.top⟩)
  · rcases hk with hk | hk | ⟨s, hk⟩
    · exact (hE.new k hk).imp (fun e => .inl e) (fun e => Nat.le_trans hb.size e)
    · cases hk
      exact .inr (Nat.le_trans hb.size h56)
    · exact .inl (.inr (.inr ⟨s, hk⟩))
theorem Mid.end {w W w7 : World} {B : Nat} {y : Lay} {D : List Way} {σ : Option Nat} {τ : Int → Value} {hs : List He} {h : He} {y7 : Lay} {sb : Nat} (hM : Mid w W B y D σ τ hs h y7 sb) (hT : TrieAt w B y D σ τ hs) (hp : parse h.p = (0, h.way)) (hlen : hs.length ≤ 1000) (hwf : wfI h.s) (hbn : w.heap.size ≤ h.b)
    (v' : Value) (hc7 : Chg W w7 (fun k => (τ h.s).ownBlock = some k)) (ho7 : w7.ownsRow 0 91 1 v' (insH h (ofS hs h.s)).length (ptrs (insH h (ofS hs h.s)))) (ha7 : ∀ k, v'.ownBlock = some k → (τ h.s).ownBlock = some k ∨ W.heap.size ≤ k) :
    ∃ w8, (Instr.mapUpdate 79 (.map (some sb)) (.int .i64 h.s) v').run Tryz.prog w7 = .ok () w8 ∧ Added w B y D σ τ hs h.s h.i h.p h.k h.f w8 ∧ w8.cell? ⟨B, 2, none⟩ = some (.map (some sb)) := by
  obtain ⟨w8, hrun, hT8, hc8, hn8⟩ := add_last (w4 := W) (w := w) (y := y) (D := D) (σ := σ) hM.tr hM.top hM.sig hM.ses hM.rho hM.mu (fun x hx => by
    rcases ins_mem.1 hx with rfl | hx
    · exact hp
    · exact hT.ok x hx) (fun q => by
    rw [addW_iff, hT.cls]
    constructor
    · rintro ((h1 | ⟨x, hx, h2⟩) | ⟨r, h1, hne, e⟩)
      · exact .inl h1
      · exact .inr ⟨x, ins_mem.2 (.inr hx), h2⟩
      · exact .inr ⟨h, ins_mem.2 (.inl rfl), by rw [e]; exact h1⟩
    · rintro (h1 | ⟨x, hx, h2⟩)
      · exact .inl (.inl h1)
      · rcases ins_mem.1 hx with rfl | hx
        · by_cases hq : q = []
          · exact .inl (.inl hq)
          · exact .inr ⟨q, h2, hq, rfl⟩
        · exact .inl (.inr ⟨x, hx, h2⟩)) hT.tr.ord hlen hwf v' hc7 ho7 ha7
  refine ⟨w8, hrun, ⟨h.b, y7, _, some sb, _, hbn, hT8, ?_, fun k hk => ?_⟩, hT8.cells.2.2.1⟩
  · refine ⟨hc8.os.trans hM.chg.os, hc8.tape.trans hM.chg.tape, hc8.output.trans hM.chg.output, Nat.le_trans hM.chg.size hc8.size, fun k hk hn => (hc8.block k (Nat.lt_of_lt_of_le hk hM.chg.size) (fun hs => ?_)).trans (hM.chg.block k hk hn)⟩
    rcases hM.new k (.inr hs) with e | e
    · exact hn e
    · omega
  · rcases hk with hk | hk
    · exact hM.new k (.inl hk)
    · rcases hn8 k hk with e | e
      · exact hM.new k (.inr e)
      · exact .inr (Nat.le_trans hM.chg.size e)
theorem eqSN (w : World) (mb : Nat) (n : Nat) : (Op.equalIn (n + 1) 79 (.map (some mb)) (.map none)).run Tryz.prog w = .ok false w := by
  simp [Op.equalIn, run_underlying Tryz.underlying79]
theorem eqlSN (w : World) (mb : Nat) : (binOp .eql 79 (.map (some mb)) (.map none)).run Tryz.prog w = .ok (.bool false) w := by
  simp only [binOp]
  simp [Op.equal, Op.maxDepth, eqSN]
theorem eqNN (w : World) (n : Nat) : (Op.equalIn (n + 1) 79 (.map none) (.map none)).run Tryz.prog w = .ok true w := by
  simp [Op.equalIn, run_underlying Tryz.underlying79]
theorem eqlNN (w : World) : (binOp .eql 79 (.map none) (.map none)).run Tryz.prog w = .ok (.bool true) w := by
  simp only [binOp]
  simp [Op.equal, Op.maxDepth, eqNN]
set_option maxHeartbeats 16000000 in
set_option maxRecDepth 100000 in
theorem addT_some (w : World) (B : Nat) (y : Lay) (D : List Way) (sb : Nat) (τ : Int → Value) (hs : List He) (s i : Int) (p : ByteArray) (k f : Int) (hT : TrieAt w B y D (some sb) τ hs) (hg : Ground w) (hlen : hs.length ≤ 1000) (hwf : wfI s) (h0 : mayL (ofS hs s) false s i p k f = 0) :
    Calls Tryz.prog 16 #[ndV B, .int .i64 s, watV i p k f] w fun e w' => e = .returned (.int .i64 0) ∧ Added w B y D (some sb) τ hs s i p k f w' := by
  have hb0 : Below w.heap.size w (w.alloc (.cells #[.int .i64 i, .string p, .int .i64 k, .int .i64 f] 40)) := (Below.refl _ _).alloc (Nat.le_refl _) _
  have hx0 : (w.alloc (.cells #[.int .i64 i, .string p, .int .i64 k, .int .i64 f] 40)).heap[w.heap.size]? = some (.cells #[.int .i64 i, .string p, .int .i64 k, .int .i64 f] 40 (0, 0)) := heap_alloc_new _ _
  obtain ⟨b0, b1, b2, b3⟩ := cells_4 hx0
  obtain ⟨a, c, hτ, hl⟩ := hT.ses.hl (fun x hx => hT.tr.held x hx) s
  have HM : Hid _ := may_some B (w.alloc (.cells #[.int .i64 i, .string p, .int .i64 k, .int .i64 f] 40)) s i p k f a c (ofS hs s) (hg.below hb0) (fun w1 hb => by rw [← hτ]; exact of_any w1 B y D _ τ hs s ((hT.below hb0).below hb) hwf) (hl.below hb0) (by have := lenS (hs := hs) s; omega) (hT.tr.ord.filter _)
  rw [h0] at HM
  obtain ⟨hpp, hhas, _, _, _, _⟩ := mayL_ok h0
  have hps := psize hpp
  have hcl : p.size ≤ 281474976710656 := by omega
  have HX0 : Hid _ := hx0
  have HB0 : Hid _ := hb0
  have HT : Hid _ := hT
  have HG : Hid _ := hg
  have HTA : Hid (τ s = .slice a (ofS hs s).length c) := hτ
  have HWF : Hid _ := hwf
  have HPP : Hid _ := hpp
  have HNK : Hid (∀ x ∈ hs, ¬ (x.s = s ∧ x.i = i)) := fun x hx hc => by
    have := hasH_iff.2 ⟨x, ofS_mem.2 ⟨hx, hc.1⟩, hc.1, hc.2⟩
    rw [hhas] at this
    cases this
  have HADD : Hid (∀ (b : Nat) (w5 : World) (a5 : Option Addr) (c5 : Nat), Below w.heap.size w w5 → HdAt w5 ⟨b, s, i, p, k, f⟩ → NsAt w5 a5 c5 (He.way ⟨b, s, i, p, k, f⟩) →
      Calls Tryz.prog 39 #[ndV B, .slice a5 (He.way ⟨b, s, i, p, k, f⟩).length c5, He.ptr ⟨b, s, i, p, k, f⟩] w5 fun e w' => e = .returned (.tuple #[]) ∧ ∃ y', Tr w' y' (addW D [] (He.way ⟨b, s, i, p, k, f⟩)) (insH ⟨b, s, i, p, k, f⟩ hs) ∧ TrE w5 w' y y' D (addW D [] (He.way ⟨b, s, i, p, k, f⟩))) := fun b w5 a5 c5 hb hh hn => by
    have h1 := hT.lenD
    have h2 := (parse_len (parse_way (b := b) (s := s) (i := i) (k := k) (f := f) hpp)).1
    have := add_any (He.way ⟨b, s, i, p, k, f⟩) w5 y D hs [] a5 c5 ⟨b, s, i, p, k, f⟩ (hT.tr.below hb) hT.tr.root (way_small (parse_way hpp)) hT.way_in (by omega) (by omega) hn hh rfl HNK.out
    rw [hT.top] at this
    exact this
  have HLN : Hid (hs.length ≤ 1000) := hlen
  clear hT hg hlen hwf hb0 hx0 hτ hl hpp hhas hps h0
  go_enter Tryz.func16, Tryz.ntmps16
  go_upto_region 4 with (first
    | (go_at_call 38; refine Calls.mono HM.out ?_; rintro e w1 ⟨rfl, hb1⟩
       have HB1 : Hid (Below w.heap.size w w1) := xtrans2 HB0.out hb1
       have HX1 : Hid _ := kept_block hb1 HX0.out
       clear hb1 b0 b1 b2 b3)
    | fail)
  obtain ⟨b0, b1, b2, b3⟩ := cells_4 HX1.out
  go_wp2_with fail
  refine (xclone_any p hcl _).mono ?_
  rintro e w2 ⟨rfl, hb2⟩
  have HB2 : Hid (Below w.heap.size w w2) := xtrans2 HB1.out hb2
  have HX2 : Hid _ := kept_block hb2 HX1.out
  clear hb2 b0 b1 b2 b3
  obtain ⟨W3, hW3⟩ : ∃ z, w2.setCell ⟨w.heap.size, 1, none⟩ (.string p) = z := ⟨_, rfl⟩
  have HW3 : Hid (w2.setCell ⟨w.heap.size, 1, none⟩ (.string p) = W3) := hW3
  have hb3 : Below w.heap.size w W3 := by rw [← hW3]; exact HB2.out.setCell (Nat.le_refl _) _
  have hx3 : W3.heap[w.heap.size]? = some (.cells #[.int .i64 i, .string p, .int .i64 k, .int .i64 f] 40 (0, 0)) := by rw [← hW3]; exact same_blk HX2.out rfl
  have HB3 : Hid _ := hb3
  have HX3 : Hid _ := hx3
  clear hW3 hb3 hx3
  obtain ⟨b0, b1, b2, b3⟩ := cells_4 HX2.out
  have fz := free_4 HX2.out
  go_upto_region 5 with fail
  rw [HW3.out]
  clear b0 b1 b2 b3 fz
  obtain ⟨b0, b1, b2, b3⟩ := cells_4 HX3.out
  obtain ⟨W4, hW4⟩ : ∃ z, W3.alloc (.cells #[.int .i64 s, .int .i64 i, .string p, .int .i64 k, .int .i64 f] 98) = z := ⟨_, rfl⟩
  have HW4 : Hid (W3.alloc (.cells #[.int .i64 s, .int .i64 i, .string p, .int .i64 k, .int .i64 f] 98) = W4) := hW4
  obtain ⟨hb, hhb⟩ : ∃ hb, W3.heap.size = hb := ⟨_, rfl⟩
  have HHB : Hid (W3.heap.size = hb) := hhb
  have hb4 : Below w.heap.size w W4 := by rw [← hW4]; exact HB3.out.alloc HB3.out.size _
  have hh4 : HdAt W4 ⟨hb, s, i, p, k, f⟩ := by rw [← hW4, ← hhb]; exact cells_held W3 s i p k f
  have HBN : Hid (w.heap.size ≤ hb) := by rw [← hhb]; exact HB3.out.size
  have HB4 : Hid _ := hb4
  have HH4 : Hid _ := hh4
  clear hW4 hhb hb4 hh4
  go_upto_region 6 with fail
  rw [HHB.out, HW4.out]
  clear b0 b1 b2 b3
  obtain ⟨h, hh⟩ : ∃ h : He, h = ⟨hb, s, i, p, k, f⟩ := ⟨_, rfl⟩
  have HE : Hid (h = ⟨hb, s, i, p, k, f⟩) := hh
  have HADD' := HADD.out hb
  rw [← hh] at HADD'
  have HAD : Hid _ := HADD'
  have HH4' : Hid (HdAt W4 h) := by show HdAt W4 h; rw [hh]; exact HH4.out
  have HPW : Hid (parse h.p = (0, h.way)) := by show parse h.p = (0, h.way); rw [hh]; exact parse_way HPP.out
  have hptr : h.ptr = .pointer (some ⟨hb, 0, none⟩) := by rw [hh]
  clear HADD' hh
  rw [← hptr]
  have HPT : Hid (h.ptr = .pointer (some ⟨hb, 0, none⟩)) := hptr
  clear hptr
  go_region_held3 (fun w' => True) (first | go_keep | trivial)
    (first
      | (go_at_call 40; refine (names_any h W4.drew HH4'.out (HG.out.below (below_drew HB4.out)) HPW.out).mono ?_; rintro e w5 ⟨a5, c5, rfl, hn5, hb5⟩
         have HB5 : Hid (Below w.heap.size w w5) := xtrans2 HB4.out (of_drew hb5)
         have HN5 : Hid _ := hn5
         have HH5 : Hid (HdAt w5 h) := HH4'.out.below (of_drew hb5)
         clear hn5 hb5)
      | (go_at_call 39; refine (HAD.out w5 a5 c5 HB5.out HH5.out HN5.out).mono ?_; rintro e w6 ⟨rfl, y6, hT6, hE6⟩
         have HT6 : Hid _ := hT6
         have HE6 : Hid _ := hE6
         clear hT6 hE6))
  have hM := mid_some HT.out HB5.out HT6.out HE6.out
  have HM7 : Hid _ := hM
  have c2 : w6.cell? ⟨B, 2, none⟩ = some (.map (some sb)) := by
    have := (hM.tr.nd [] hM.tr.root).cells.2.2.1 rfl
    rw [hM.top, hM.sig] at this
    exact this
  have hq := eqlSN w6 sb
  clear hM
  go_upto_region 9 with fail
  clear hq
  obtain ⟨a8, c8, hτ8, hl8⟩ := HM7.out.ses.hl (fun x hx => HM7.out.tr.held x (ins_mem.2 (.inr hx))) s
  have hlk := HM7.out.ses.get HWF.out
  rw [hτ8] at hlk
  have hlk' : (Instr.lookup 79 (.map (some sb)) (.int .i64 s) false).run Tryz.prog w6.drew = .ok (.slice a8 (ofS hs s).length c8) w6.drew := by
    have := (HM7.out.ses.below (below_drew (Below.refl _ _))).get HWF.out
    rw [hτ8] at this
    exact this
  have HTA8 : Hid _ := hτ8
  have HL8 : Hid (Hl w6 a8 c8 (ofS hs s)) := hl8
  have HHW : Hid (HdAt w6 h) := HM7.out.tr.held h (ins_mem.2 (.inl rfl))
  clear hτ8 hl8 hlk
  go_region_held3 (fun w' => w'.cell? ⟨B, 2, none⟩ = some (.map (some sb))) (first | go_keep | exact c2 | exact c9)
    (first
      | (go_at_call 41; refine (with_any a8 c8 (ofS hs s) h w6.drew (HL8.out.below (below_drew (Below.refl _ _))) HHW.out (by have := lenS (hs := hs) s; have := HLN.out; omega) (HT.out.tr.ord.filter _)).mono ?_; rintro e w8 ⟨v', rfl, ho8, hc8, ha8⟩
         clear hlk' c2
         obtain ⟨av, cv, hv⟩ := owns_shape ho8
         have hes : h.s = s := by rw [HE.out]
         obtain ⟨w9, hup, hA9, c9⟩ := HM7.out.end HT.out HPW.out HLN.out (by rw [hes]; exact HWF.out) (by rw [HE.out]; exact HBN.out) v' (w7 := w8) (by rw [hes, HTA8.out]; exact ⟨hc8.os, hc8.tape, hc8.output, hc8.size, hc8.block⟩) (by rw [hes]; exact ho8) (by rw [hes, HTA8.out]; exact ha8)
         have c2 : w8.cell? ⟨B, 2, none⟩ = some (.map (some sb)) := by
           have e1 := (HM7.out.tr.nd [] HM7.out.tr.root).cells.2.2.1 rfl
           rw [HM7.out.top, HM7.out.sig] at e1
           have hBl : B < w6.heap.size := by
             obtain ⟨c, t, hx, _⟩ := HM7.out.tr.kβ HM7.out.tr.root
             rw [HM7.out.top] at hx
             exact lt_of_blk hx
           rw [World.cell?_of_block (w := w6) (hc8.block B hBl (fun e => Go.Proofs.YtbblckcjedjbcaaGreatDoor.apart HM7.out.tr HM7.out.ses HM7.out.rho HM7.out.mu (.inr ⟨s, by rw [HTA8.out]; exact e⟩) (.inl (.inl ⟨[], HM7.out.tr.root, HM7.out.top⟩))))]
           exact e1
         rw [hes] at hup
         rw [HE.out] at hA9
         have HA9 : Hid _ := hA9
         subst hv
         clear ho8 hc8 ha8 hes hA9))
  go_wp2_with fail
  go_ret
  exact ⟨rfl, HA9.out⟩
set_option maxHeartbeats 16000000 in
set_option maxRecDepth 100000 in
theorem addT_none (w : World) (B : Nat) (y : Lay) (D : List Way) (τ : Int → Value) (hs : List He) (s i : Int) (p : ByteArray) (k f : Int) (hT : TrieAt w B y D none τ hs) (hg : Ground w) (hlen : hs.length ≤ 1000) (hwf : wfI s) (h0 : mayL (ofS hs s) false s i p k f = 0) :
    Calls Tryz.prog 16 #[ndV B, .int .i64 s, watV i p k f] w fun e w' => e = .returned (.int .i64 0) ∧ Added w B y D none τ hs s i p k f w' := by
  have hb0 : Below w.heap.size w (w.alloc (.cells #[.int .i64 i, .string p, .int .i64 k, .int .i64 f] 40)) := (Below.refl _ _).alloc (Nat.le_refl _) _
  have hx0 : (w.alloc (.cells #[.int .i64 i, .string p, .int .i64 k, .int .i64 f] 40)).heap[w.heap.size]? = some (.cells #[.int .i64 i, .string p, .int .i64 k, .int .i64 f] 40 (0, 0)) := heap_alloc_new _ _
  obtain ⟨b0, b1, b2, b3⟩ := cells_4 hx0
  obtain ⟨a, c, hτ, hl⟩ := hT.ses.hl (fun x hx => hT.tr.held x hx) s
  have HM : Hid _ := may_some B (w.alloc (.cells #[.int .i64 i, .string p, .int .i64 k, .int .i64 f] 40)) s i p k f a c (ofS hs s) (hg.below hb0) (fun w1 hb => by rw [← hτ]; exact of_any w1 B y D _ τ hs s ((hT.below hb0).below hb) hwf) (hl.below hb0) (by have := lenS (hs := hs) s; omega) (hT.tr.ord.filter _)
  rw [h0] at HM
  obtain ⟨hpp, hhas, _, _, _, _⟩ := mayL_ok h0
  have hps := psize hpp
  have hcl : p.size ≤ 281474976710656 := by omega
  have HX0 : Hid _ := hx0
  have HB0 : Hid _ := hb0
  have HT : Hid _ := hT
  have HG : Hid _ := hg
  have HTA : Hid (τ s = .slice a (ofS hs s).length c) := hτ
  have HWF : Hid _ := hwf
  have HPP : Hid _ := hpp
  have HNK : Hid (∀ x ∈ hs, ¬ (x.s = s ∧ x.i = i)) := fun x hx hc => by
    have := hasH_iff.2 ⟨x, ofS_mem.2 ⟨hx, hc.1⟩, hc.1, hc.2⟩
    rw [hhas] at this
    cases this
  have HADD : Hid (∀ (b : Nat) (w5 : World) (a5 : Option Addr) (c5 : Nat), Below w.heap.size w w5 → HdAt w5 ⟨b, s, i, p, k, f⟩ → NsAt w5 a5 c5 (He.way ⟨b, s, i, p, k, f⟩) →
      Calls Tryz.prog 39 #[ndV B, .slice a5 (He.way ⟨b, s, i, p, k, f⟩).length c5, He.ptr ⟨b, s, i, p, k, f⟩] w5 fun e w' => e = .returned (.tuple #[]) ∧ ∃ y', Tr w' y' (addW D [] (He.way ⟨b, s, i, p, k, f⟩)) (insH ⟨b, s, i, p, k, f⟩ hs) ∧ TrE w5 w' y y' D (addW D [] (He.way ⟨b, s, i, p, k, f⟩))) := fun b w5 a5 c5 hb hh hn => by
    have h1 := hT.lenD
    have h2 := (parse_len (parse_way (b := b) (s := s) (i := i) (k := k) (f := f) hpp)).1
    have := add_any (He.way ⟨b, s, i, p, k, f⟩) w5 y D hs [] a5 c5 ⟨b, s, i, p, k, f⟩ (hT.tr.below hb) hT.tr.root (way_small (parse_way hpp)) hT.way_in (by omega) (by omega) hn hh rfl HNK.out
    rw [hT.top] at this
    exact this
  have HLN : Hid (hs.length ≤ 1000) := hlen
  clear hT hg hlen hwf hb0 hx0 hτ hl hpp hhas hps h0
  go_enter Tryz.func16, Tryz.ntmps16
  go_upto_region 4 with (first
    | (go_at_call 38; refine Calls.mono HM.out ?_; rintro e w1 ⟨rfl, hb1⟩
       have HB1 : Hid (Below w.heap.size w w1) := xtrans2 HB0.out hb1
       have HX1 : Hid _ := kept_block hb1 HX0.out
       clear hb1 b0 b1 b2 b3)
    | fail)
  obtain ⟨b0, b1, b2, b3⟩ := cells_4 HX1.out
  go_wp2_with fail
  refine (xclone_any p hcl _).mono ?_
  rintro e w2 ⟨rfl, hb2⟩
  have HB2 : Hid (Below w.heap.size w w2) := xtrans2 HB1.out hb2
  have HX2 : Hid _ := kept_block hb2 HX1.out
  clear hb2 b0 b1 b2 b3
  obtain ⟨W3, hW3⟩ : ∃ z, w2.setCell ⟨w.heap.size, 1, none⟩ (.string p) = z := ⟨_, rfl⟩
  have HW3 : Hid (w2.setCell ⟨w.heap.size, 1, none⟩ (.string p) = W3) := hW3
  have hb3 : Below w.heap.size w W3 := by rw [← hW3]; exact HB2.out.setCell (Nat.le_refl _) _
  have hx3 : W3.heap[w.heap.size]? = some (.cells #[.int .i64 i, .string p, .int .i64 k, .int .i64 f] 40 (0, 0)) := by rw [← hW3]; exact same_blk HX2.out rfl
  have HB3 : Hid _ := hb3
  have HX3 : Hid _ := hx3
  clear hW3 hb3 hx3
  obtain ⟨b0, b1, b2, b3⟩ := cells_4 HX2.out
  have fz := free_4 HX2.out
  go_upto_region 5 with fail
  rw [HW3.out]
  clear b0 b1 b2 b3 fz
  obtain ⟨b0, b1, b2, b3⟩ := cells_4 HX3.out
  obtain ⟨W4, hW4⟩ : ∃ z, W3.alloc (.cells #[.int .i64 s, .int .i64 i, .string p, .int .i64 k, .int .i64 f] 98) = z := ⟨_, rfl⟩
  have HW4 : Hid (W3.alloc (.cells #[.int .i64 s, .int .i64 i, .string p, .int .i64 k, .int .i64 f] 98) = W4) := hW4
  obtain ⟨hb, hhb⟩ : ∃ hb, W3.heap.size = hb := ⟨_, rfl⟩
  have HHB : Hid (W3.heap.size = hb) := hhb
  have hb4 : Below w.heap.size w W4 := by rw [← hW4]; exact HB3.out.alloc HB3.out.size _
  have hh4 : HdAt W4 ⟨hb, s, i, p, k, f⟩ := by rw [← hW4, ← hhb]; exact cells_held W3 s i p k f
  have HBN : Hid (w.heap.size ≤ hb) := by rw [← hhb]; exact HB3.out.size
  have HB4 : Hid _ := hb4
  have HH4 : Hid _ := hh4
  clear hW4 hhb hb4 hh4
  go_upto_region 6 with fail
  rw [HHB.out, HW4.out]
  clear b0 b1 b2 b3
  obtain ⟨h, hh⟩ : ∃ h : He, h = ⟨hb, s, i, p, k, f⟩ := ⟨_, rfl⟩
  have HE : Hid (h = ⟨hb, s, i, p, k, f⟩) := hh
  have HADD' := HADD.out hb
  rw [← hh] at HADD'
  have HAD : Hid _ := HADD'
  have HH4' : Hid (HdAt W4 h) := by show HdAt W4 h; rw [hh]; exact HH4.out
  have HPW : Hid (parse h.p = (0, h.way)) := by show parse h.p = (0, h.way); rw [hh]; exact parse_way HPP.out
  have hptr : h.ptr = .pointer (some ⟨hb, 0, none⟩) := by rw [hh]
  clear HADD' hh
  rw [← hptr]
  have HPT : Hid (h.ptr = .pointer (some ⟨hb, 0, none⟩)) := hptr
  clear hptr
  go_region_held3 (fun w' => True) (first | go_keep | trivial)
    (first
      | (go_at_call 40; refine (names_any h W4.drew HH4'.out (HG.out.below (below_drew HB4.out)) HPW.out).mono ?_; rintro e w5 ⟨a5, c5, rfl, hn5, hb5⟩
         have HB5 : Hid (Below w.heap.size w w5) := xtrans2 HB4.out (of_drew hb5)
         have HN5 : Hid _ := hn5
         have HH5 : Hid (HdAt w5 h) := HH4'.out.below (of_drew hb5)
         clear hn5 hb5)
      | (go_at_call 39; refine (HAD.out w5 a5 c5 HB5.out HH5.out HN5.out).mono ?_; rintro e w6 ⟨rfl, y6, hT6, hE6⟩
         have HT6 : Hid _ := hT6
         have HE6 : Hid _ := hE6
         clear hT6 hE6))
  have hM := mid_none HT.out HB5.out HT6.out HE6.out
  have HTOP : Hid (y6.β [] = B) := by have := hM.top; exact this
  obtain ⟨k0, k1, k2, kf⟩ := (HT6.out.nd [] HT6.out.root).cells
  have k2' : w6.cell? ⟨B, 2, none⟩ = some (.map none) := by
    have := k2 rfl
    rw [HTOP.out, HE6.out.sig, HT.out.sig] at this
    exact this
  have hBl : B < w6.heap.size := by
    obtain ⟨c, t, hx, _⟩ := HT6.out.kβ HT6.out.root
    rw [HTOP.out] at hx
    exact lt_of_blk hx
  have hq := eqlNN w6
  have hmm : (Instr.makeMap 79 none).run Tryz.prog w6 = .ok (.map (some w6.heap.size)) (w6.alloc (.map #[] 0)) := run_makeMap ..
  have k2a : (w6.alloc (.map #[] 0)).cell? ⟨B, 2, none⟩ = some (.map none) := by
    rw [((Below.refl w6.heap.size w6).alloc (Nat.le_refl _) _).cell (p := ⟨B, 2, none⟩) hBl]
    exact k2'
  have hfz : (w6.alloc (.map #[] 0)).frozen? ⟨B, 2, none⟩ = false := by
    rw [((Below.refl w6.heap.size w6).alloc (Nat.le_refl _) _).frozen (p := ⟨B, 2, none⟩) hBl, ← HTOP.out]
    exact kf 2
  obtain ⟨W7, hW7⟩ : ∃ z, (w6.alloc (.map #[] 0)).setCell ⟨B, 2, none⟩ (.map (some w6.heap.size)) = z := ⟨_, rfl⟩
  have HW7 : Hid ((w6.alloc (.map #[] 0)).setCell ⟨B, 2, none⟩ (.map (some w6.heap.size)) = W7) := hW7
  rw [hW7] at hM
  have HM7 : Hid _ := hM
  have c2 : W7.cell? ⟨B, 2, none⟩ = some (.map (some w6.heap.size)) := by
    have := (hM.tr.nd [] hM.tr.root).cells.2.2.1 rfl
    rw [hM.top, hM.sig] at this
    exact this
  obtain ⟨sb, hsb⟩ : ∃ sb, w6.heap.size = sb := ⟨_, rfl⟩
  have HSB : Hid (w6.heap.size = sb) := hsb
  rw [hsb] at HM7 c2
  clear hM hW7 k0 k1 k2 kf hsb hBl
  go_upto_region 9 with fail
  rw [HW7.out]
  clear hq hmm k2a hfz k2'
  obtain ⟨a8, c8, hτ8, hl8⟩ := HM7.out.ses.hl (fun x hx => HM7.out.tr.held x (ins_mem.2 (.inr hx))) s
  have hlk := HM7.out.ses.get HWF.out
  rw [hτ8] at hlk
  have hlk' : (Instr.lookup 79 (.map (some sb)) (.int .i64 s) false).run Tryz.prog W7.drew = .ok (.slice a8 (ofS hs s).length c8) W7.drew := by
    have := (HM7.out.ses.below (below_drew (Below.refl _ _))).get HWF.out
    rw [hτ8] at this
    exact this
  have HTA8 : Hid _ := hτ8
  have HL8 : Hid (Hl W7 a8 c8 (ofS hs s)) := hl8
  have HHW : Hid (HdAt W7 h) := HM7.out.tr.held h (ins_mem.2 (.inl rfl))
  clear hτ8 hl8 hlk
  go_region_held3 (fun w' => w'.cell? ⟨B, 2, none⟩ = some (.map (some sb))) (first | go_keep | exact c2 | exact c9)
    (first
      | (go_at_call 41; refine (with_any a8 c8 (ofS hs s) h W7.drew (HL8.out.below (below_drew (Below.refl _ _))) HHW.out (by have := lenS (hs := hs) s; have := HLN.out; omega) (HT.out.tr.ord.filter _)).mono ?_; rintro e w8 ⟨v', rfl, ho8, hc8, ha8⟩
         clear hlk' c2
         obtain ⟨av, cv, hv⟩ := owns_shape ho8
         have hes : h.s = s := by rw [HE.out]
         obtain ⟨w9, hup, hA9, c9⟩ := HM7.out.end HT.out HPW.out HLN.out (by rw [hes]; exact HWF.out) (by rw [HE.out]; exact HBN.out) v' (w7 := w8) (by rw [hes, HTA8.out]; exact ⟨hc8.os, hc8.tape, hc8.output, hc8.size, hc8.block⟩) (by rw [hes]; exact ho8) (by rw [hes, HTA8.out]; exact ha8)
         have c2 : w8.cell? ⟨B, 2, none⟩ = some (.map (some sb)) := by
           have e1 := (HM7.out.tr.nd [] HM7.out.tr.root).cells.2.2.1 rfl
           rw [HM7.out.top, HM7.out.sig] at e1
           have hBl : B < W7.heap.size := by
             obtain ⟨c, t, hx, _⟩ := HM7.out.tr.kβ HM7.out.tr.root
             rw [HM7.out.top] at hx
             exact lt_of_blk hx
           rw [World.cell?_of_block (w := W7) (hc8.block B hBl (fun e => Go.Proofs.YtbblckcjedjbcaaGreatDoor.apart HM7.out.tr HM7.out.ses HM7.out.rho HM7.out.mu (.inr ⟨s, by rw [HTA8.out]; exact e⟩) (.inl (.inl ⟨[], HM7.out.tr.root, HM7.out.top⟩))))]
           exact e1
         rw [hes] at hup
         rw [HE.out] at hA9
         have HA9 : Hid _ := hA9
         subst hv
         clear ho8 hc8 ha8 hes hA9))
  go_wp2_with fail
  go_ret
  exact ⟨rfl, HA9.out⟩
end Go.Proofs.YtbblckcjedjbcaaGreatDoor
