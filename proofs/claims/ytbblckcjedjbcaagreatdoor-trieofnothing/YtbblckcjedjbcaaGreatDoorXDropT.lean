/-
  trie: Drop.
-/
import Derived.Test.YtbblckcjedjbcaaGreatDoorXDrop2
namespace Go.Proofs.YtbblckcjedjbcaaGreatDoor
open Go.RowKit Go.Maps
set_option linter.unusedVariables false
set_option linter.unusedSimpArgs false

/-- The tree has let go of h; the sessions' lists have it still. -/
structure MidD (w W : World) (B : Nat) (y : Lay) (D : List Way) (sb : Nat) (τ : Int → Value) (hs hs' : List He) (y7 : Lay) (D7 : List Way) : Prop where
  tr : Tr W y7 D7 hs'
  top : y7.β [] = B
  sig : y7.σ = .map (some sb)
  ses : SesAt W (some sb) τ hs
  held : ∀ x ∈ hs, HdAt W x
  rho : ∀ s, ∀ p ∈ D7, ∀ k, (τ s).ownBlock = some k → (y7.ρ p).ownBlock ≠ some k
  mu : ∀ p ∈ D7, ∀ k, some sb = some k → y7.μ p ≠ some k
  chg : Chg w W (Tf y D (some sb) τ)
  new : ∀ k, Tf y7 D7 (some sb) τ k → Tf y D (some sb) τ k ∨ w.heap.size ≤ k
theorem midD {w w5 w6 : World} {B : Nat} {y y6 : Lay} {D D6 : List Way} {τ : Int → Value} {hs hs' : List He} {sb : Nat} (hT : TrieAt w B y D (some sb) τ hs) (hb : Below w.heap.size w w5) (hT6 : Tr w6 y6 D6 hs') (hE : TrE w5 w6 y y6 D D6) (hr : [] ∈ D6) : MidD w w6 B y D sb τ hs hs' y6 D6 := by
  have hap : ∀ k, Sf (some sb) τ k → ¬ Wt y D k := fun k hk hw => hT.apart hk (.inl hw)
  have hlt : ∀ k, Sf (some sb) τ k → k < w.heap.size := fun k hk => hT.ses.lt hk
  have hnw : ∀ k, Sf (some sb) τ k → ¬ Wt y6 D6 k := fun k hk hw => by
    rcases hE.new k hw with e | e
    · exact hap k hk e
    · have := hlt k hk
      have := hb.size
      omega
  refine ⟨hT6, ?_, hE.sig.trans hT.sig, (hT.ses.below hb).chg hE.chg (fun k hk => hap k hk), fun x hx => ((hT.tr.held x hx).below hb).chg hE.chg (hT.tr.wh (hT.tr.held x hx)), fun s p hp k hk hk' => hnw k (.inr ⟨s, hk⟩) (.inr (.inr ⟨p, hp, hk'⟩)), fun p hp k hk hk' => hnw k (.inl hk) (.inr (.inl ⟨p, hp, hk'⟩)), ?_, fun k hk => ?_⟩
  · rw [hE.beta [] hT.tr.root hr, hT.top]
  · exact (Chg.beh hb hE.chg).mono (fun k _ e => .inl e)
  · rcases hk with hk | hk
    · exact (hE.new k hk).imp (fun e => .inl e) (fun e => Nat.le_trans hb.size e)
    · exact .inl (.inr hk)
/-- A turn of the sessions' map behind it. -/
theorem MidD.end {w W w8 : World} {B : Nat} {y : Lay} {D : List Way} {sb : Nat} {τ τ' : Int → Value} {hs hs' : List He} {y7 : Lay} {D7 : List Way} (hM : MidD w W B y D sb τ hs hs' y7 D7) (hS8 : SesAt w8 (some sb) τ' hs') (hc8 : Chg W w8 (Sf (some sb) τ)) (hτ : ∀ t k, (τ' t).ownBlock = some k → (τ t).ownBlock = some k)
    (hok : ∀ x ∈ hs', parse x.p = (0, x.way)) (hcls : ∀ q, q ∈ D7 ↔ q = [] ∨ ∃ x ∈ hs', q <+: x.way) :
    TrieAt w8 B y7 D7 (some sb) τ' hs' ∧ TfE w w8 y y7 D D7 (some sb) (some sb) τ τ' := by
  have hsf : ∀ k, Sf (some sb) τ' k → Sf (some sb) τ k := fun k hk => hk.imp id (fun ⟨s, e⟩ => ⟨s, hτ s k e⟩)
  refine ⟨⟨hM.tr.chg hc8 (fun k hk hs => Go.Proofs.YtbblckcjedjbcaaGreatDoor.apart hM.tr hM.ses hM.rho hM.mu hs hk), hM.top, hM.sig, hS8, fun s p hp k hk => hM.rho s p hp k (hτ s k hk), hM.mu, hok, hcls⟩, ?_, fun k hk => ?_⟩
  · refine ⟨hc8.os.trans hM.chg.os, hc8.tape.trans hM.chg.tape, hc8.output.trans hM.chg.output, Nat.le_trans hM.chg.size hc8.size, fun k hk hn => (hc8.block k (Nat.lt_of_lt_of_le hk hM.chg.size) (fun hs => ?_)).trans (hM.chg.block k hk hn)⟩
    rcases hM.new k (.inr hs) with e | e
    · exact hn e
    · omega
  · rcases hk with hk | hk
    · exact hM.new k (.inl hk)
    · exact hM.new k (.inr (hsf k hk))
theorem ofS_del {s i : Int} {hs : List He} (t : Int) : ofS (delH s i hs) t = delH s i (ofS hs t) := by
  unfold ofS
  exact del_filter s i _ hs
theorem ofS_del_other {s i : Int} {hs : List He} {t : Int} (h : t ≠ s) : ofS (delH s i hs) t = ofS hs t := by
  rw [ofS_del]
  refine del_none (fun x hx hc => h ?_)
  rw [← (ofS_mem.1 hx).2, hc.1]
theorem cls_del {w : World} {B : Nat} {y : Lay} {D : List Way} {σ : Option Nat} {τ : Int → Value} {hs : List He} (hT : TrieAt w B y D σ τ hs) {h : He} (hh : h ∈ hs) (q : Way) : q ∈ dropW (delH h.s h.i hs) D [] h.way ↔ q = [] ∨ ∃ x ∈ delH h.s h.i hs, q <+: x.way := by
  have hA : ∀ q ∈ D, q = [] ∨ q <+: h.way ∨ Need (delH h.s h.i hs) q := fun q hq => by
    rcases (hT.cls q).1 hq with e | ⟨x, hx, hp⟩
    · exact .inl e
    · by_cases hc : x.s = h.s ∧ x.i = h.i
      · have := hT.tr.ord.key hx hh hc.1 hc.2
        subst this
        exact .inr (.inl hp)
      · exact .inr (.inr ⟨x, del_mem.2 ⟨hx, hc⟩, hp⟩)
  have hB : ∀ q, Need (delH h.s h.i hs) q → q ∈ D := fun q ⟨x, hx, hp⟩ => (hT.cls q).2 (.inr ⟨x, (del_mem.1 hx).1, hp⟩)
  rw [dropW_iff hA hB h.way [] rfl]
  constructor
  · rintro ⟨h1, h2⟩
    by_cases e : q = []
    · exact .inl e
    · refine .inr (h2.elim (fun h3 => ?_) id)
      rcases hA q h1 with e2 | e2 | e2
      · exact absurd e2 e
      · exact absurd ⟨List.nil_prefix, e, e2⟩ h3
      · exact e2
  · rintro (rfl | h1)
    · exact ⟨hT.tr.root, .inl (fun h => h.2.1 rfl)⟩
    · exact ⟨hB q h1, .inr h1⟩
/-- What Drop leaves. -/
def Dropt (w : World) (B : Nat) (y : Lay) (D : List Way) (sb : Nat) (τ : Int → Value) (hs' : List He) (w' : World) : Prop :=
  ∃ y' D' τ', TrieAt w' B y' D' (some sb) τ' hs' ∧ TfE w w' y y' D D' (some sb) (some sb) τ τ'
theorem MidD.gone {w W : World} {B : Nat} {y : Lay} {D : List Way} {sb : Nat} {τ : Int → Value} {hs hs' : List He} {y7 : Lay} {D7 : List Way} (hM : MidD w W B y D sb τ hs hs' y7 D7) (hok : ∀ x ∈ hs', parse x.p = (0, x.way)) (hcls : ∀ q, q ∈ D7 ↔ q = [] ∨ ∃ x ∈ hs', q <+: x.way) {s : Int} (hwf : wfI s) (hoth : ∀ t, t ≠ s → ofS hs' t = ofS hs t) (hno : ∀ x ∈ hs', x.s ≠ s) :
    ∃ w8, (∀ ty, (Builtin.delete_ #[79, 3] ty #[.map (some sb), .int .i64 s]).run Tryz.prog W = .ok (.tuple #[]) w8) ∧ Dropt w B y D sb τ hs' w8 := by
  obtain ⟨Dm, hm, hsr⟩ : ∃ Dm, W.ownsMap Tryz.prog 3 raw sb (Maps.size Dm) Dm ∧ SR Dm τ hs := by
    rcases hM.ses.map with ⟨h1, _⟩ | ⟨b, Dm, h1, h2, h3⟩
    · cases h1
    · cases h1; exact ⟨Dm, h2, h3⟩
  obtain ⟨w8, hrun, hS8, hc8⟩ := hM.ses.gone (hs' := hs') rfl hm hsr hwf hoth hno 0
  obtain ⟨h1, h2⟩ := hM.end hS8 (hc8.mono (fun k _ e => .inl (by rw [e]))) (fun t k hk => by
    by_cases e : t = s
    · subst e
      rw [updI_same] at hk
      cases hk
    · rw [updI_other _ _ e] at hk
      exact hk) hok hcls
  exact ⟨w8, fun ty => hrun, _, _, _, h1, h2⟩
theorem MidD.less {w W w7 : World} {B : Nat} {y : Lay} {D : List Way} {sb : Nat} {τ : Int → Value} {hs hs' : List He} {y7 : Lay} {D7 : List Way} (hM : MidD w W B y D sb τ hs hs' y7 D7) (hok : ∀ x ∈ hs', parse x.p = (0, x.way)) (hcls : ∀ q, q ∈ D7 ↔ q = [] ∨ ∃ x ∈ hs', q <+: x.way) (hlen : hs.length ≤ 1000) {s : Int} (hwf : wfI s) (hoth : ∀ t, t ≠ s → ofS hs' t = ofS hs t) (hin : ∃ x ∈ hs', x.s = s)
    (v' : Value) (hc7 : Chg W w7 (fun k => (τ s).ownBlock = some k)) (ho7 : w7.ownsRow 0 91 1 v' (ofS hs' s).length (ptrs (ofS hs' s))) (ha7 : ∀ k, v'.ownBlock = some k → (τ s).ownBlock = some k) :
    ∃ w8, (Instr.mapUpdate 79 (.map (some sb)) (.int .i64 s) v').run Tryz.prog w7 = .ok () w8 ∧ Dropt w B y D sb τ hs' w8 ∧ w8.cell? ⟨B, 2, none⟩ = some (.map (some sb)) := by
  obtain ⟨Dm, hm, hsr⟩ : ∃ Dm, W.ownsMap Tryz.prog 3 raw sb (Maps.size Dm) Dm ∧ SR Dm τ hs := by
    rcases hM.ses.map with ⟨h1, _⟩ | ⟨b, Dm, h1, h2, h3⟩
    · cases h1
    · cases h1; exact ⟨Dm, h2, h3⟩
  obtain ⟨w8, hrun, hS8, hc8⟩ := hM.ses.put (hs' := hs') rfl hm hsr (by have := hsr.size; omega) hwf v' hc7 ho7 (fun k hk => .inl (ha7 k hk)) hoth hin
  obtain ⟨h1, h2⟩ := hM.end hS8 ((hc7.mono (fun k _ e => .inr ⟨s, e⟩)).trans (hc8.mono (fun k _ e => .inl (by rw [e])))) (fun t k hk => by
    by_cases e : t = s
    · subst e
      rw [updI_same] at hk
      exact ha7 k hk
    · rw [updI_other _ _ e] at hk
      exact hk) hok hcls
  exact ⟨w8, hrun, ⟨_, _, _, h1, h2⟩, h1.cells.2.2.1⟩
theorem TrieAt.dropCall {w : World} {B : Nat} {y : Lay} {D : List Way} {σ : Option Nat} {τ : Int → Value} {hs : List He} (hT : TrieAt w B y D σ τ hs) (hlen : hs.length ≤ 1000) {h : He} (hh : h ∈ hs) (w5 : World) (a : Option Addr) (c : Nat) (hb : Below w.heap.size w w5) (hn : NsAt w5 a c h.way) :
    Calls Tryz.prog 45 #[ndV B, .slice a h.way.length c, h.ptr] w5 fun e w' => e = .returned (.tuple #[]) ∧ ∃ y', Tr w' y' (dropW (delH h.s h.i hs) D [] h.way) (delH h.s h.i hs) ∧ TrE w5 w' y y' D (dropW (delH h.s h.i hs) D [] h.way) := by
  have h2 := (parse_len (hT.ok h hh)).1
  have := drop_any h.way w5 y D hs [] a c h (hT.tr.below hb) (hT.way_in h hh) (way_small (hT.ok h hh)) (by omega) (by omega) hn hh rfl
  rw [hT.top] at this
  exact this
set_option maxHeartbeats 16000000 in
set_option maxRecDepth 100000 in
theorem drop_no (w : World) (B : Nat) (y : Lay) (D : List Way) (σ : Option Nat) (τ : Int → Value) (hs : List He) (s i : Int) (hT : TrieAt w B y D σ τ hs) (hlen : hs.length ≤ 1000) (hwf : wfI s) (hno : hasH (ofS hs s) s i = false) :
    Calls Tryz.prog 19 #[ndV B, .int .i64 s, .int .i64 i] w fun e w' => e = .returned (.int .i64 90) ∧ Below w.heap.size w w' := by
  obtain ⟨a, c, hτ, hl⟩ := hT.ses.hl (fun x hx => hT.tr.held x hx) s
  have HOF : Hid (Calls Tryz.prog 36 #[ndV B, .int .i64 s] w fun e w' => e = .returned (.slice a (ofS hs s).length c) ∧ w' = w) := by rw [← hτ]; exact of_any w B y D σ τ hs s hT hwf
  have HFI : Hid _ := find_any a c (ofS hs s) s i w hl (by have := lenS (hs := hs) s; omega) (hT.tr.ord.filter _)
  rw [hno] at HFI
  clear hT hlen hwf hτ hl hno
  go_enter Tryz.func19, Tryz.ntmps19
  go_wp2_with (first
    | (go_at_call 36; refine Calls.mono HOF.out ?_; rintro e w1 ⟨rfl, rfl⟩)
    | (go_at_call 44; refine Calls.mono HFI.out ?_; rintro e w2 ⟨n, rfl, _, hb2⟩; (have HB2 : Hid _ := hb2); clear hb2)
    | fail)
  go_ret
  exact ⟨rfl, HB2.out⟩
theorem dropNil (w : World) (s i : Int) :
    Calls Tryz.prog 19 #[.pointer none, .int .i64 s, .int .i64 i] w fun e w' => e = .returned (.int .i64 90) ∧ Below w.heap.size w w' := by
  have HFI : Hid _ := find_any none 0 [] s i w ⟨World.ownsRow_nil _ _ _ _, fun x hx => (by cases hx)⟩ (by simp) List.Pairwise.nil
  have HFI' : Hid (Calls Tryz.prog 44 #[.slice none 0 0, tagV s i] w fun e w' => ∃ n : Nat, e = .returned (.tuple #[.int .i64 n, .bool false]) ∧ Below w.heap.size w w') := Calls.mono HFI.out (fun e w' ⟨n, h1, _, h3⟩ => ⟨n, h1, h3⟩)
  clear HFI
  go_enter Tryz.func19, Tryz.ntmps19
  go_wp2_with (first
    | (go_at_call 36; refine (of_nil w s).mono ?_; rintro e w1 ⟨rfl, rfl⟩)
    | (go_at_call 44; refine Calls.mono HFI'.out ?_; rintro e w2 ⟨n, rfl, hb2⟩; (have HB2 : Hid _ := hb2); clear hb2)
    | fail)
  go_ret
  exact ⟨rfl, HB2.out⟩
theorem one_only {hs : List He} {s : Int} (ho : Ord hs) {h : He} (hh : h ∈ hs) (hs' : h.s = s) (h1 : (ofS hs s).length = 1) : ∀ x ∈ delH h.s h.i hs, x.s ≠ s := by
  intro x hx e
  obtain ⟨hx1, hx2⟩ := del_mem.1 hx
  have m1 : x ∈ ofS hs s := ofS_mem.2 ⟨hx1, e⟩
  have m2 : h ∈ ofS hs s := ofS_mem.2 ⟨hh, hs'⟩
  obtain ⟨z, hz⟩ := List.length_eq_one_iff.1 h1
  rw [hz] at m1 m2
  have e1 : x = z := by simpa using m1
  have e2 : h = z := by simpa using m2
  exact hx2 ⟨by rw [e1, e2], by rw [e1, e2]⟩
theorem more_left {hs : List He} {s : Int} (ho : Ord hs) {h : He} (hh : h ∈ hs) (hs' : h.s = s) (h1 : (ofS hs s).length ≠ 1) : ∃ x ∈ delH h.s h.i hs, x.s = s := by
  have m2 : h ∈ ofS hs s := ofS_mem.2 ⟨hh, hs'⟩
  have h2 := del_len (ho.filter _) m2
  have h3 : 0 < (delH h.s h.i (ofS hs s)).length := by
    have : 0 < (ofS hs s).length := List.length_pos_of_mem m2
    unfold ofS at *
    omega
  obtain ⟨x, hx⟩ := List.exists_mem_of_length_pos h3
  rw [← ofS_del] at hx
  obtain ⟨h4, h5⟩ := ofS_mem.1 hx
  exact ⟨x, h4, h5⟩
set_option maxHeartbeats 32000000 in
set_option maxRecDepth 100000 in
theorem drop_ok (w : World) (B : Nat) (y : Lay) (D : List Way) (sb : Nat) (τ : Int → Value) (hs : List He) (s i : Int) (h : He) (hT : TrieAt w B y D (some sb) τ hs) (hg : Ground w) (hlen : hs.length ≤ 1000) (hwf : wfI s) (hh : h ∈ hs) (hhs : h.s = s) (hhi : h.i = i) :
    Calls Tryz.prog 19 #[ndV B, .int .i64 s, .int .i64 i] w fun e w' => e = .returned (.int .i64 0) ∧ Dropt w B y D sb τ (delH s i hs) w' := by
  subst hhs
  subst hhi
  obtain ⟨a, c, hτ, hl⟩ := hT.ses.hl (fun x hx => hT.tr.held x hx) h.s
  have hmem : h ∈ ofS hs h.s := ofS_mem.2 ⟨hh, rfl⟩
  have HOF : Hid (Calls Tryz.prog 36 #[ndV B, .int .i64 h.s] w fun e w' => e = .returned (.slice a (ofS hs h.s).length c) ∧ w' = w) := by rw [← hτ]; exact of_any w B y D _ τ hs h.s hT hwf
  have HFI : Hid (Calls Tryz.prog 44 #[.slice a (ofS hs h.s).length c, tagV h.s h.i] w fun e w' => ∃ n : Nat, e = .returned (.tuple #[.int .i64 n, .bool true]) ∧ (ofS hs h.s)[n]? = some h ∧ Below w.heap.size w w') := by
    have hy : hasH (ofS hs h.s) h.s h.i = true := hasH_iff.2 ⟨h, hmem, rfl, rfl⟩
    refine (find_any a c (ofS hs h.s) h.s h.i w hl (by have := lenS (hs := hs) h.s; omega) (hT.tr.ord.filter _)).mono ?_
    rintro e w' ⟨n, he, hst, hb⟩
    rw [hy] at he
    exact ⟨n, he, stood_at (hT.tr.ord.filter _) hmem hst, hb⟩
  have HT : Hid _ := hT
  have HG : Hid _ := hg
  have HL : Hid (Hl w a c (ofS hs h.s)) := hl
  have HTA : Hid (τ h.s = .slice a (ofS hs h.s).length c) := hτ
  have HWF : Hid _ := hwf
  have HH : Hid (h ∈ hs) := hh
  have HLN : Hid (hs.length ≤ 1000) := hlen
  have HOK : Hid (∀ x ∈ delH h.s h.i hs, parse x.p = (0, x.way)) := fun x hx => hT.ok x (del_mem.1 hx).1
  have HCL : Hid _ := fun q => cls_del hT hh q
  have HOTH : Hid (∀ t, t ≠ h.s → ofS (delH h.s h.i hs) t = ofS hs t) := fun t ht => ofS_del_other ht
  have hml : (ofS hs h.s).length ≤ 1000 := by have := lenS (hs := hs) h.s; omega
  clear hT hg hlen hwf hτ hl hmem hh
  go_enter Tryz.func19, Tryz.ntmps19
  go_upto_region 5 with (first
    | (go_at_call 36; refine Calls.mono HOF.out ?_; rintro e w1 ⟨rfl, rfl⟩)
    | (go_at_call 44; refine Calls.mono HFI.out ?_; rintro e w2 ⟨n, rfl, hn2, hb2⟩; (have HB2 : Hid (Below w1.heap.size w1 w2) := hb2); (have HN2 : Hid _ := hn2); clear hb2 hn2)
    | fail)
  obtain ⟨g, rfl, p0, hh2⟩ := (HL.out.below HB2.out).at HN2.out
  have hnl : n < (ofS hs h.s).length := (List.getElem?_eq_some_iff.1 HN2.out).1
  have hnl' : (n : Int) < ((ofS hs h.s).length : Int) := by omega
  have HH2 : Hid (HdAt w2 h) := hh2
  clear hh2
  go_upto_region 6 with fail
  clear p0
  go_region_held3 (fun w' => True) (first | go_keep | trivial)
    (first
      | (go_at_call 40; refine (names_any h w2.drew HH2.out (HG.out.below (below_drew HB2.out)) (HT.out.ok h HH.out)).mono ?_; rintro e w5 ⟨a5, c5, rfl, hn5, hb5⟩
         have HB5 : Hid (Below w1.heap.size w1 w5) := xtrans2 HB2.out (of_drew hb5)
         have HN5 : Hid _ := hn5
         clear hn5 hb5)
      | (go_at_call 45; refine (HT.out.dropCall HLN.out HH.out w5 a5 c5 HB5.out HN5.out).mono ?_; rintro e w6 ⟨rfl, y6, hT6, hE6⟩
         have HM : Hid _ := midD HT.out HB5.out hT6 hE6 (dropW_keep HT.out.tr.root (Nat.le_refl _))
         clear hT6 hE6))
  have c2 : w6.cell? ⟨B, 2, none⟩ = some (.map (some sb)) := by
    have := (HM.out.tr.nd [] HM.out.tr.root).cells.2.2.1 rfl
    rw [HM.out.top, HM.out.sig] at this
    exact this
  by_cases h1 : (ofS hs h.s).length = 1
  · have h1' : ((ofS hs h.s).length : Int) = 1 := by omega
    obtain ⟨w8, hdel, hD8⟩ := HM.out.gone HOK.out HCL.out HWF.out HOTH.out (one_only HT.out.tr.ord HH.out rfl h1)
    have HD8 : Hid _ := hD8
    clear hD8
    go_wp2_with fail
    go_ret
    exact ⟨rfl, HD8.out⟩
  · have h1' : ¬ (((ofS hs h.s).length : Int) = 1) := by omega
    go_upto_region 9 with fail
    go_region_held3 (fun w' => w'.cell? ⟨B, 2, none⟩ = some (.map (some sb))) (first | go_keep | exact c2 | exact c9)
      (first
        | (go_at_call 46
           obtain ⟨a8, c8, hτ8, hl8⟩ := HM.out.ses.hl HM.out.held h.s
           rw [HTA.out] at hτ8
           have hτ9 : a8 = some ⟨g, 0, none⟩ ∧ c8 = c := by
             simp only [Value.slice.injEq] at hτ8
             exact ⟨hτ8.1.symm, hτ8.2.2.symm⟩
           obtain ⟨rfl, rfl⟩ := hτ9
           refine (without_any _ _ (ofS hs h.s) h w6.drew (hl8.below (below_drew (Below.refl _ _))) (ofS_mem.2 ⟨HH.out, rfl⟩) (by omega) (HT.out.tr.ord.filter _)).mono ?_
           rintro e w8 ⟨v', rfl, ho8, hc8, ha8⟩
           obtain ⟨av, cv, hv⟩ := owns_shape ho8
           have hbn : ¬ (Value.slice (some ⟨g, 0, none⟩) (ofS hs h.s).length c8).ownBlock = some B := fun e => Go.Proofs.YtbblckcjedjbcaaGreatDoor.apart HM.out.tr HM.out.ses HM.out.rho HM.out.mu (.inr ⟨h.s, by rw [HTA.out]; exact e⟩) (.inl (.inl ⟨[], HM.out.tr.root, HM.out.top⟩))
           have hBl : B < w6.heap.size := by
             obtain ⟨c, t, hx, _⟩ := HM.out.tr.kβ HM.out.tr.root
             rw [HM.out.top] at hx
             exact lt_of_blk hx
           have c2' : w8.cell? ⟨B, 2, none⟩ = some (.map (some sb)) := by
             rw [World.cell?_of_block (w := w6) (hc8.block B hBl hbn)]
             exact c2
           clear c2
           have c2 := c2'
           obtain ⟨w9, hup, hA9, c9⟩ := HM.out.less HOK.out HCL.out HLN.out HWF.out HOTH.out (more_left HT.out.tr.ord HH.out rfl h1) v' (w7 := w8) (by rw [HTA.out]; exact ⟨hc8.os, hc8.tape, hc8.output, hc8.size, hc8.block⟩) (by rw [ofS_del]; exact ho8) (by rw [HTA.out]; exact ha8)
           have HA9 : Hid _ := hA9
           subst hv
           clear ho8 hc8 ha8 hA9 hl8 hτ8 hbn hBl c2'))
    go_wp2_with fail
    go_ret
    exact ⟨rfl, HA9.out⟩
end Go.Proofs.YtbblckcjedjbcaaGreatDoor
