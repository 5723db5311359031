import Derived.Test.YtbblckcjedjbcaaGreatDoorXTrie
namespace Go.Proofs.YtbblckcjedjbcaaGreatDoor
open Go.RowKit Go.Maps
set_option linter.unusedVariables false
set_option linter.unusedSimpArgs false

theorem addW_iff {D : List Way} {p : Way} {ns : List ByteArray} {q : Way} : q ∈ addW D p ns ↔ q ∈ D ∨ ∃ r, r <+: ns ∧ r ≠ [] ∧ q = p ++ r := by
  induction ns generalizing D p with
  | nil =>
    constructor
    · exact .inl
    · rintro (h | ⟨r, h, hne, _⟩)
      · exact h
      · exact absurd (List.prefix_nil.1 h) hne
  | cons n ns ih =>
    show q ∈ addW (addD D (p ++ [n])) (p ++ [n]) ns ↔ _
    rw [ih, addD_mem]
    constructor
    · rintro ((h | h) | ⟨r, h, hne, e⟩)
      · exact .inl h
      · exact .inr ⟨[n], ⟨ns, rfl⟩, by simp, h⟩
      · exact .inr ⟨n :: r, by rw [List.cons_prefix_cons]; exact ⟨rfl, h⟩, by simp, by rw [e, List.append_assoc]; rfl⟩
    · rintro (h | ⟨r, h, hne, e⟩)
      · exact .inl (.inl h)
      · cases r with
        | nil => exact absurd rfl hne
        | cons m r =>
          rw [List.cons_prefix_cons] at h
          obtain ⟨rfl, h⟩ := h
          by_cases hr : r = []
          · subst hr
            exact .inl (.inr e)
          · exact .inr ⟨r, h, hr, by rw [e, List.append_assoc]; rfl⟩
/-- The sessions' blocks are none of the tree's. -/
theorem apart {w : World} {y : Lay} {D : List Way} {σ : Option Nat} {τ : Int → Value} {hs hs' : List He} (hT : Tr w y D hs) (hS : SesAt w σ τ hs') (hρ : ∀ s, ∀ p ∈ D, ∀ k, (τ s).ownBlock = some k → (y.ρ p).ownBlock ≠ some k) (hμ : ∀ p ∈ D, ∀ k, σ = some k → y.μ p ≠ some k) {k : Nat} (hk : Sf σ τ k) : ¬ Ft y D hs k := by
  rintro ((⟨p, hp, e⟩ | ⟨p, hp, e⟩ | ⟨p, hp, e⟩) | ⟨x, hx, e⟩)
  · obtain ⟨cur, t, h1, ht⟩ := hT.kβ hp
    rw [e] at h1
    rcases hk with hk | ⟨s, hk⟩
    · obtain ⟨es, c, h2⟩ := hS.kσ hk
      rw [h1] at h2
      cases h2
    · obtain ⟨c2, h2⟩ := hS.kτ hk
      rw [h1] at h2
      simp only [Option.some.injEq, Obj.cells.injEq] at h2
      rcases ht with rfl | rfl
      · exact absurd h2.2.1 (by decide)
      · exact absurd h2.2.1 (by decide)
  · rcases hk with hk | ⟨s, hk⟩
    · exact hμ p hp k hk e
    · obtain ⟨c2, h2⟩ := hS.kτ hk
      obtain ⟨es, c, h1⟩ := hT.kμ hp e
      rw [h1] at h2
      cases h2
  · rcases hk with hk | ⟨s, hk⟩
    · obtain ⟨es, c, h2⟩ := hS.kσ hk
      obtain ⟨c1, h1⟩ := hT.kρ hp e
      rw [h1] at h2
      cases h2
    · exact hρ s p hp k hk e
  · have h1 := hT.held x hx
    unfold HdAt at h1
    rw [e] at h1
    rcases hk with hk | ⟨s, hk⟩
    · obtain ⟨es, c, h2⟩ := hS.kσ hk
      rw [h1] at h2
      cases h2
    · obtain ⟨c2, h2⟩ := hS.kτ hk
      rw [h1] at h2
      simp only [Option.some.injEq, Obj.cells.injEq] at h2
      exact absurd h2.2.1 (by decide)
theorem TrieAt.apart {w : World} {B : Nat} {y : Lay} {D : List Way} {σ : Option Nat} {τ : Int → Value} {hs : List He} (h : TrieAt w B y D σ τ hs) {k : Nat} (hk : Sf σ τ k) : ¬ Ft y D hs k := Go.Proofs.YtbblckcjedjbcaaGreatDoor.apart h.tr h.ses h.sρ h.sμ hk
/-- What stands behind the root is another thing. -/
theorem Tr.setSig {w : World} {y : Lay} {D : List Way} {hs : List He} (h : Tr w y D hs) (v : Value) : Tr (w.setCell ⟨y.β [], 2, none⟩ v) { y with σ := v } D hs := by
  have hc2 : Chg w (w.setCell ⟨y.β [], 2, none⟩ v) (fun k => k = y.β []) := Chg.set _ _ _
  refine ⟨h.ord, h.root, h.up, h.dn, h.sml, h.inj, fun q hq => ?_, fun q hq => ?_, h.rap, fun q hq => ?_, h.map, fun x hx => ?_⟩
  · by_cases e : q = []
    · subst e
      obtain ⟨cur, h1, h2, h3, h4⟩ := h.nd [] hq
      have h1s : 2 < cur.size := (Array.getElem?_eq_some_iff.1 (h4 rfl)).1
      refine ⟨cur.setIfInBounds 2 v, heap_setCell_same w _ 2 cur _ v h1, ?_, ?_, fun e => ?_⟩
      · rw [Array.getElem?_setIfInBounds_ne (by decide)]; exact h2
      · rw [Array.getElem?_setIfInBounds_ne (by decide)]; exact h3
      · rw [Array.getElem?_setIfInBounds_self_of_lt h1s]
    · obtain ⟨cur, h1, h2, h3, _⟩ := (h.nd q hq).chg hc2 (fun e' => e (h.inj q hq [] h.root e'))
      exact ⟨cur, h1, h2, h3, fun e' => absurd e' e⟩
  · exact owns_chg (h.row q hq) hc2 (fun k hk e' => h.βρ h.root hq hk e'.symm)
  · exact (h.kids q hq).chg hc2 (fun k hk e => h.βμ h.root hq hk e.symm)
  · exact (h.held x hx).chg hc2 (h.hβ h.root (h.held x hx))
set_option maxHeartbeats 3200000 in
theorem names_any (h : He) (w : World) (hh : HdAt w h) (hg : Ground w) (hp : parse h.p = (0, h.way)) :
    Calls Tryz.prog 40 #[h.ptr] w fun e w' => ∃ a c, e = .returned (.slice a h.way.length c) ∧ NsAt w' a c h.way ∧ Below w.heap.size w w' := by
  have HPA : Hid (Calls Tryz.prog 30 #[.string h.p] w fun e w' => ∃ a c, e = .returned (.tuple #[.slice a h.way.length c, .int .i64 0]) ∧ NsAt w' a c h.way ∧ Below w.heap.size w w') := by
    refine (parse_any h.p w hg).mono ?_
    rintro e w' ⟨a, c, he, ho, hb⟩
    rw [hp] at he ho
    exact ⟨a, c, he, NsAt.of ho, hb⟩
  obtain ⟨x0, x1, x2, x3, x4⟩ := cells_5 hh
  clear hh hg hp
  go_enter Tryz.func40, Tryz.ntmps40
  go_wp2_with (first | (go_at_call 30; refine Calls.mono HPA.out ?_; rintro e w1 ⟨a, c, rfl, hn, hb⟩; (have HN : Hid _ := hn); (have HB : Hid _ := hb); clear hn hb) | fail)
  go_ret
  exact ⟨a, c, rfl, HN.out, HB.out⟩
/-- A new watch's names are small. -/
theorem way_small {p : ByteArray} {xs : List ByteArray} (h : parse p = (0, xs)) : ∀ n ∈ xs, n.size ≤ 1000 := by
  intro n hn
  have h1 := List.all_eq_true.1 (parse_len h).2 n hn
  unfold isNm at h1
  simp only [Bool.and_eq_true, decide_eq_true_eq] at h1
  omega
end Go.Proofs.YtbblckcjedjbcaaGreatDoor
namespace Go.Proofs.YtbblckcjedjbcaaGreatDoor
open Go.RowKit Go.Maps
set_option linter.unusedVariables false
set_option linter.unusedSimpArgs false

theorem Ground.chg {w w' : World} {S : Nat → Prop} (h : Ground w) (hc : Chg w w' S) (h0 : ¬ S 0) (h1 : ¬ S 1) : Ground w' where
  tab i hi := by
    have e := h.tab i hi
    rw [World.cell?_of_block (w := w) (hc.block _ (World.block_lt_of_cell? _ _ e) h0)]
    exact e
  most := by
    obtain ⟨m, e⟩ := h.most
    exact ⟨m, by rw [World.cell?_of_block (w := w) (hc.block _ (World.block_lt_of_cell? _ _ e) h1)]; exact e⟩
/-- What a turn of the whole trie leaves. -/
structure TfE (w w' : World) (y y' : Lay) (D D' : List Way) (σ σ' : Option Nat) (τ τ' : Int → Value) : Prop where
  chg : Chg w w' (Tf y D σ τ)
  new : ∀ k, Tf y' D' σ' τ' k → Tf y D σ τ k ∨ w.heap.size ≤ k
theorem ofS_ins {h : He} {hs : List He} (ho : Ord hs) (t : Int) : ofS (insH h hs) t = if h.s = t then insH h (ofS hs t) else ofS hs t := by
  unfold ofS
  rw [ins_filter _ _ ho]
  by_cases e : h.s = t
  · simp [e]
  · simp [e]
/-- A watch is in the tree and not yet among the sessions' lists; the map of these is there: what the last step makes of it. -/
theorem add_last {w w4 w5 : World} {B : Nat} {y y5 : Lay} {D D5 : List Way} {σ : Option Nat} {sb : Nat} {τ : Int → Value} {hs : List He} {h : He} (hT5 : Tr w5 y5 D5 (insH h hs)) (htop : y5.β [] = B) (hsig : y5.σ = .map (some sb)) (hS5 : SesAt w5 (some sb) τ hs)
    (hρ : ∀ s, ∀ p ∈ D5, ∀ k, (τ s).ownBlock = some k → (y5.ρ p).ownBlock ≠ some k) (hμ : ∀ p ∈ D5, ∀ k, some sb = some k → y5.μ p ≠ some k) (hok : ∀ x ∈ insH h hs, parse x.p = (0, x.way)) (hcls : ∀ q, q ∈ D5 ↔ q = [] ∨ ∃ x ∈ insH h hs, q <+: x.way) (ho : Ord hs) (hlen : hs.length ≤ 1000)
    (hwf : wfI h.s) {w7 : World} (v' : Value) (hc7 : Chg w5 w7 (fun k => (τ h.s).ownBlock = some k)) (ho7 : w7.ownsRow 0 91 1 v' (insH h (ofS hs h.s)).length (ptrs (insH h (ofS hs h.s)))) (ha7 : ∀ k, v'.ownBlock = some k → (τ h.s).ownBlock = some k ∨ w5.heap.size ≤ k) :
    ∃ w8, (Instr.mapUpdate 79 (.map (some sb)) (.int .i64 h.s) v').run Tryz.prog w7 = .ok () w8 ∧ TrieAt w8 B y5 D5 (some sb) (updI τ h.s v') (insH h hs) ∧ Chg w5 w8 (Sf (some sb) τ) ∧ (∀ k, Sf (some sb) (updI τ h.s v') k → Sf (some sb) τ k ∨ w5.heap.size ≤ k) := by
  obtain ⟨Dm, hm, hsr⟩ : ∃ Dm, w5.ownsMap Tryz.prog 3 raw sb (Maps.size Dm) Dm ∧ SR Dm τ hs := by
    rcases hS5.map with ⟨h1, _⟩ | ⟨b, Dm, h1, h2, h3⟩
    · cases h1
    · cases h1; exact ⟨Dm, h2, h3⟩
  have hsz : Maps.size Dm ≤ 1000000 := by have := hsr.size; omega
  obtain ⟨w8, hrun, hS8, hc8⟩ := hS5.put (hs' := insH h hs) rfl hm hsr hsz hwf v' hc7 (by rw [ofS_ins ho, if_pos rfl]; exact ho7) ha7 (fun t ht => by rw [ofS_ins ho, if_neg (fun e => ht e.symm)]) ⟨h, ins_mem.2 (.inl rfl), rfl⟩
  have hch : Chg w5 w8 (Sf (some sb) τ) := (hc7.mono (fun k _ e => .inr ⟨h.s, e⟩)).trans (hc8.mono (fun k _ e => .inl (by rw [e])))
  refine ⟨w8, hrun, ⟨hT5.chg hch (fun k hk hs => Go.Proofs.YtbblckcjedjbcaaGreatDoor.apart hT5 hS5 hρ hμ hs hk), htop, hsig, hS8, fun s p hp k hk hk' => ?_, hμ, hok, hcls⟩, hch, fun k hk => ?_⟩
  · by_cases e : s = h.s
    · subst e
      rw [updI_same] at hk
      rcases ha7 k hk with e | e
      · exact hρ h.s p hp k e hk'
      · have := ((hT5.row p hp).lt k hk').2
        omega
    · rw [updI_other _ _ e] at hk
      exact hρ s p hp k hk hk'
  · rcases hk with hk | ⟨s, hk⟩
    · exact .inl (.inl hk)
    · by_cases e : s = h.s
      · subst e
        rw [updI_same] at hk
        exact (ha7 k hk).imp (fun e => .inr ⟨_, e⟩) id
      · rw [updI_other _ _ e] at hk
        exact .inl (.inr ⟨s, hk⟩)
/-- What Add leaves. -/
def Added (w : World) (B : Nat) (y : Lay) (D : List Way) (σ : Option Nat) (τ : Int → Value) (hs : List He) (s i : Int) (p : ByteArray) (k f : Int) (w' : World) : Prop :=
  ∃ b y' D' σ' τ', w.heap.size ≤ b ∧ TrieAt w' B y' D' σ' τ' (insH ⟨b, s, i, p, k, f⟩ hs) ∧ TfE w w' y y' D D' σ σ' τ τ'
theorem mayL_ok {l : List He} {s i : Int} {p : ByteArray} {k f : Int} (h : mayL l false s i p k f = 0) : (parse p).1 = 0 ∧ hasH l s i = false ∧ l.length < 4 ∧ numsB s i f = false ∧ 1 ≤ k ∧ k ≤ 3 := by
  unfold mayL at h
  split at h
  · cases h
  · split at h
    · cases h
    · split at h
      · cases h
      · split at h
        · cases h
        · rename_i h1 h2 h3 h4
          refine ⟨by simpa using h2, ?_, ?_, by simpa using h1, ?_, ?_⟩
          · rw [Bool.eq_false_iff]; exact fun e => h3 (.inr (.inr e))
          · rw [Nat.lt_iff_add_one_le]; have : ¬ 4 ≤ l.length := fun e => h4 (.inr e); omega
          · have : ¬ k < 1 := fun e => h3 (.inl e); omega
          · have : ¬ k > 3 := fun e => h3 (.inr (.inl e)); omega
theorem cells_held (w : World) (s i : Int) (p : ByteArray) (k f : Int) : HdAt (w.alloc (.cells #[.int .i64 s, .int .i64 i, .string p, .int .i64 k, .int .i64 f] 98)) ⟨w.heap.size, s, i, p, k, f⟩ := heap_alloc_new _ _
theorem parse_way {b : Nat} {s i : Int} {p : ByteArray} {k f : Int} (h : (parse p).1 = 0) : parse p = (0, He.way ⟨b, s, i, p, k, f⟩) := by
  unfold He.way
  rw [← h]
theorem psize {p : ByteArray} (h : (parse p).1 = 0) : p.size ≤ 102 := by
  by_cases h1 : 102 < p.size
  · rw [parse_long h1] at h; cases h
  · omega
theorem lenS {hs : List He} (s : Int) : (ofS hs s).length ≤ hs.length := List.length_filter_le _ _
set_option maxHeartbeats 16000000 in
set_option maxRecDepth 100000 in
theorem add_no (w : World) (B : Nat) (y : Lay) (D : List Way) (σ : Option Nat) (τ : Int → Value) (hs : List He) (s i : Int) (p : ByteArray) (k f : Int) (hT : TrieAt w B y D σ τ hs) (hg : Ground w) (hlen : hs.length ≤ 1000) (hwf : wfI s) (hne : mayL (ofS hs s) false s i p k f ≠ 0) :
    Calls Tryz.prog 16 #[ndV B, .int .i64 s, watV i p k f] w fun e w' => e = .returned (.int .i64 (mayL (ofS hs s) false s i p k f)) ∧ Below w.heap.size w w' := by
  have hb0 : Below w.heap.size w (w.alloc (.cells #[.int .i64 i, .string p, .int .i64 k, .int .i64 f] 40)) := (Below.refl _ _).alloc (Nat.le_refl _) _
  obtain ⟨b0, b1, b2, b3⟩ := cells_4 (heap_alloc_new w (.cells #[.int .i64 i, .string p, .int .i64 k, .int .i64 f] 40))
  obtain ⟨a, c, hτ, hl⟩ := hT.ses.hl (fun x hx => hT.tr.held x hx) s
  have HM : Hid _ := may_some B (w.alloc (.cells #[.int .i64 i, .string p, .int .i64 k, .int .i64 f] 40)) s i p k f a c (ofS hs s) (hg.below hb0) (fun w1 hb => by rw [← hτ]; exact of_any w1 B y D σ τ hs s ((hT.below hb0).below hb) hwf) (hl.below hb0) (by have := lenS (hs := hs) s; omega) (hT.tr.ord.filter _)
  obtain ⟨code, hcode⟩ : ∃ code, mayL (ofS hs s) false s i p k f = code := ⟨_, rfl⟩
  rw [hcode] at HM hne ⊢
  have HB0 : Hid _ := hb0
  clear hT hg hlen hwf hb0 hτ hl hcode
  go_enter Tryz.func16, Tryz.ntmps16
  go_wp2_with (first | (go_at_call 38; refine Calls.mono HM.out ?_; rintro e w1 ⟨rfl, hb1⟩; (have HB1 : Hid _ := xtrans2 HB0.out hb1); clear hb1 b0 b1 b2 b3) | fail)
  go_ret
  exact ⟨rfl, HB1.out⟩
end Go.Proofs.YtbblckcjedjbcaaGreatDoor
