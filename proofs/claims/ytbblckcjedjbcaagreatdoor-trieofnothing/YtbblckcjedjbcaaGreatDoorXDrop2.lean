import Derived.Test.YtbblckcjedjbcaaGreatDoorXAt
namespace Go.Proofs.YtbblckcjedjbcaaGreatDoor
open Go.RowKit Go.Maps
set_option linter.unusedVariables false
set_option linter.unusedSimpArgs false

/-- A node without anything goes. -/
theorem Tr.dropKid {w w3 : World} {y : Lay} {D : List Way} {hs : List He} (h : Tr w y D hs) {p : Way} (hp : p ∈ D) {n : ByteArray} (hq : p ++ [n] ∈ D) (hno : ∀ m, p ++ [n] ++ [m] ∉ D) {mb : Nat} {Dm : DataW Value} (hμ : y.μ p = some mb) (hkr : KR Dm p D y.β)
    (hc : Chg w w3 (fun k => k = mb)) (hm : MapAt w3 mb (Maps.size (Dm.del (ky n))) (Dm.del (ky n))) :
    Tr w3 y (D.filter (fun q => !decide (q = p ++ [n]))) hs := by
  have hmem : ∀ q, q ∈ D.filter (fun q => !decide (q = p ++ [n])) ↔ q ∈ D ∧ q ≠ p ++ [n] := fun q => by simp
  refine ⟨h.ord, (hmem _).2 ⟨h.root, by simp⟩, fun q m hq' => ?_, List.Pairwise.filter _ h.dn, fun q hq' => h.sml q ((hmem q).1 hq').1, fun q hq' r hr => h.inj q ((hmem q).1 hq').1 r ((hmem r).1 hr).1, fun q hq' => ?_, fun q hq' => ?_, fun q hq' r hr => h.rap q ((hmem q).1 hq').1 r ((hmem r).1 hr).1, fun q hq' => ?_, fun q hq' r hr => h.map q ((hmem q).1 hq').1 r ((hmem r).1 hr).1, fun x hx => ?_⟩
  · obtain ⟨h1, h2⟩ := (hmem _).1 hq'
    refine (hmem _).2 ⟨h.up q m h1, fun e => ?_⟩
    rw [e] at h1
    exact hno m h1
  · have h1 := ((hmem q).1 hq').1
    exact (h.nd q h1).chg hc (fun e => h.βμ h1 hp hμ e)
  · have h1 := ((hmem q).1 hq').1
    exact owns_chg (h.row q h1) hc (fun k hk e => h.ρμ h1 hp hk hμ e)
  · have h1 := ((hmem q).1 hq').1
    by_cases e : q = p
    · subst e
      rw [hμ]
      refine .inr ⟨mb, _, rfl, hm, hkr.tidy.del _, hkr.str.del _, fun m => ?_, fun m z hm' => ?_⟩
      · rw [hmem]
        by_cases e : m = n
        · subst e
          rw [Maps.has_del_same]
          simp
        · rw [Maps.has_del_other (fun e' => e (kyX_inj e')), hkr.has m]
          simp [e]
      · obtain ⟨h3, h4⟩ := (hmem _).1 hm'
        have e : m ≠ n := fun e => h4 (by rw [e])
        rw [Maps.atKey_del_other (fun e' => e (kyX_inj e'))]
        exact hkr.look m z h3
    · rcases h.kids q h1 with ⟨h2, h3⟩ | ⟨b, Dq, h2, h3, h4⟩
      · exact .inl ⟨h2, fun m hm' => h3 m ((hmem _).1 hm').1⟩
      · refine .inr ⟨b, Dq, h2, map_chg h3 hc (fun e' => h.map q h1 p hp e b h2 (by rw [e']; exact hμ)), h4.tidy, h4.str, fun m => ?_, fun m z hm' => h4.look m z ((hmem _).1 hm').1⟩
        rw [h4.has m, hmem]
        constructor
        · exact fun h5 => ⟨h5, fun e' => e (List.append_inj' e' rfl).1⟩
        · exact fun h5 => h5.1
  · exact (h.held x hx).chg hc (h.hμ hp (h.held x hx) hμ)
/-- Whether a node has neither watches nor kids. -/
def bareB (D : List Way) (hs : List He) (q : Way) : Bool := (here hs q).isEmpty && (kidsOf D q).isEmpty
theorem bareB_iff {D : List Way} {hs : List He} {q : Way} : bareB D hs q = true ↔ here hs q = [] ∧ ∀ m, q ++ [m] ∉ D := by
  unfold bareB
  rw [Bool.and_eq_true, List.isEmpty_iff, List.isEmpty_iff, List.eq_nil_iff_forall_not_mem (l := kidsOf D q)]
  constructor
  · rintro ⟨h1, h2⟩
    exact ⟨h1, fun m hm => h2 m (kids_mem.2 hm)⟩
  · rintro ⟨h1, h2⟩
    exact ⟨h1, fun m hm => h2 m (kids_mem.1 hm)⟩
/-- The nodes that are left. -/
def dropW (hs : List He) : List Way → Way → List ByteArray → List Way
  | D, _, [] => D
  | D, p, n :: r => if bareB (dropW hs D (p ++ [n]) r) hs (p ++ [n]) then (dropW hs D (p ++ [n]) r).filter (fun q => !decide (q = p ++ [n])) else dropW hs D (p ++ [n]) r
theorem dropW_sub {hs : List He} {D : List Way} {ns : List ByteArray} {p q : Way} (h : q ∈ dropW hs D p ns) : q ∈ D := by
  induction ns generalizing p with
  | nil => exact h
  | cons n r ih =>
    unfold dropW at h
    split at h
    · exact ih (List.mem_filter.1 h).1
    · exact ih h
theorem dropW_keep {hs : List He} {D : List Way} {ns : List ByteArray} {p q : Way} (h : q ∈ D) (hl : q.length ≤ p.length) : q ∈ dropW hs D p ns := by
  induction ns generalizing p with
  | nil => exact h
  | cons n r ih =>
    have h1 := ih (p := p ++ [n]) (by rw [List.length_append]; omega)
    unfold dropW
    split
    · refine List.mem_filter.2 ⟨h1, ?_⟩
      have : q ≠ p ++ [n] := fun e => by rw [e, List.length_append] at hl; simp at hl; omega
      simp [this]
    · exact h1
def Need (hs : List He) (q : Way) : Prop := ∃ x ∈ hs, q <+: x.way
theorem Need.up {hs : List He} {q r : Way} (h : Need hs r) (hp : q <+: r) : Need hs q := by
  obtain ⟨x, hx, h1⟩ := h
  exact ⟨x, hx, hp.trans h1⟩
theorem dropW_iff {hs : List He} {D : List Way} {wy : Way} (hA : ∀ q ∈ D, q = [] ∨ q <+: wy ∨ Need hs q) (hB : ∀ q, Need hs q → q ∈ D) (ns : List ByteArray) (p : Way) (hw : wy = p ++ ns) (q : Way) : q ∈ dropW hs D p ns ↔ q ∈ D ∧ (¬ (p <+: q ∧ q ≠ p ∧ q <+: wy) ∨ Need hs q) := by
  induction ns generalizing p q with
  | nil =>
    rw [List.append_nil] at hw
    subst hw
    show q ∈ D ↔ _
    constructor
    · intro h
      refine ⟨h, .inl ?_⟩
      rintro ⟨h1, h2, h3⟩
      exact h2 (h3.eq_of_length_le h1.length_le)
    · exact fun h => h.1
  | cons n r ih =>
    have hw' : wy = p ++ [n] ++ r := by rw [hw, List.append_assoc]; rfl
    have ihq := fun q => ih (p ++ [n]) hw' q
    have hbare : bareB (dropW hs D (p ++ [n]) r) hs (p ++ [n]) = true ↔ ¬ Need hs (p ++ [n]) := by
      rw [bareB_iff]
      constructor
      · rintro ⟨h1, h2⟩ ⟨x, hx, h3⟩
        by_cases e : x.way = p ++ [n]
        · have : x ∈ here hs (p ++ [n]) := here_mem.2 ⟨hx, e⟩
          rw [h1] at this
          cases this
        · obtain ⟨m, t, e2⟩ := way_split h3 e
          have hn : Need hs (p ++ [n] ++ [m]) := ⟨x, hx, ⟨t, by rw [e2]; simp⟩⟩
          exact h2 m ((ihq _).2 ⟨hB _ hn, .inr hn⟩)
      · intro hn
        refine ⟨?_, fun m hm => ?_⟩
        · rw [List.eq_nil_iff_forall_not_mem]
          intro x hx
          obtain ⟨h1, h2⟩ := here_mem.1 hx
          exact hn ⟨x, h1, by rw [h2]; exact List.prefix_refl _⟩
        · obtain ⟨h1, h2⟩ := (ihq _).1 hm
          have hne : ¬ Need hs (p ++ [n] ++ [m]) := fun h => hn (h.up (List.prefix_append _ _))
          rcases hA _ h1 with e | e | e
          · simp at e
          · refine h2.elim (fun h3 => h3 ⟨List.prefix_append _ _, fun e2 => ?_, e⟩) hne
            have := congrArg List.length e2
            simp at this
          · exact hne e
    have hon : ∀ q, (p <+: q ∧ q ≠ p ∧ q <+: wy) ↔ (q = p ++ [n] ∨ (p ++ [n] <+: q ∧ q ≠ p ++ [n] ∧ q <+: wy)) := fun q => by
      constructor
      · rintro ⟨h1, h2, h3⟩
        have h4 : p ++ [n] <+: q := pre_one h1 (by rw [hw] at h3; exact h3) h2
        by_cases e : q = p ++ [n]
        · exact .inl e
        · exact .inr ⟨h4, e, h3⟩
      · rintro (rfl | ⟨h1, h2, h3⟩)
        · refine ⟨List.prefix_append _ _, by simp, ?_⟩
          rw [hw']
          exact List.prefix_append _ _
        · refine ⟨(List.prefix_append p [n]).trans h1, fun e => ?_, h3⟩
          have := h1.length_le
          rw [e, List.length_append, List.length_singleton] at this
          omega
    unfold dropW
    rw [hon]
    by_cases hN : Need hs (p ++ [n])
    · rw [if_neg (fun e => hbare.1 e hN), ihq]
      constructor
      · rintro ⟨h1, h2⟩
        refine ⟨h1, ?_⟩
        by_cases e : q = p ++ [n]
        · exact .inr (e ▸ hN)
        · exact h2.imp (fun h3 h4 => h4.elim e h3) id
      · rintro ⟨h1, h2⟩
        exact ⟨h1, h2.imp (fun h3 h4 => h3 (.inr h4)) id⟩
    · rw [if_pos (hbare.2 hN), List.mem_filter, ihq]
      simp only [Bool.not_eq_true', decide_eq_false_iff_not]
      constructor
      · rintro ⟨⟨h1, h2⟩, h3⟩
        exact ⟨h1, h2.imp (fun h4 h5 => h5.elim h3 h4) id⟩
      · rintro ⟨h1, h2⟩
        refine ⟨⟨h1, h2.imp (fun h3 h4 => h3 (.inr h4)) id⟩, fun e => ?_⟩
        exact h2.elim (fun h3 => h3 (.inl e)) (fun h3 => hN (e ▸ h3))
theorem here_del {s i : Int} {hs : List He} (q : Way) : here (delH s i hs) q = delH s i (here hs q) := by
  unfold here
  exact del_filter s i _ hs
end Go.Proofs.YtbblckcjedjbcaaGreatDoor
namespace Go.Proofs.YtbblckcjedjbcaaGreatDoor
open Go.RowKit Go.Maps
set_option linter.unusedVariables false
set_option linter.unusedSimpArgs false

theorem KidsAt.len {w : World} {m : Option Nat} {p : Way} {D : List Way} {β : Way → Nat} (h : KidsAt w m p D β) (hd : D.Nodup) (ty : TypeId) : (Builtin.len_ #[74] ty #[.map m]).run Tryz.prog w = .ok (.int .i64 ((kidsOf D p).length : Nat)) w := by
  rcases h with ⟨rfl, h2⟩ | ⟨b, Dm, rfl, h2, h3⟩
  · have : kidsOf D p = [] := by
      rw [List.eq_nil_iff_forall_not_mem]
      intro n hn
      exact h2 n (kids_mem.1 hn)
    rw [this]
    exact Maps.len_nil Tryz.underlying74 ty
  · rw [← h3.size hd]
    exact h2.len Tryz.underlying74 ty
set_option maxHeartbeats 6400000 in
theorem bare_any (w : World) (y : Lay) (D : List Way) (hs : List He) (p : Way) (hT : Tr w y D hs) (hp : p ∈ D) :
    Calls Tryz.prog 72 #[ndV (y.β p)] w fun e w' => e = .returned (.bool (bareB D hs p)) ∧ w' = w := by
  obtain ⟨c0, c1, _, fz⟩ := (hT.nd p hp).cells
  obtain ⟨a, c, hρ, _⟩ := hT.hlp hp
  rw [hρ] at c1
  have hlen := fun ty => (hT.kids p hp).len hT.dn ty
  unfold bareB
  obtain ⟨A, hA⟩ : ∃ A, here hs p = A := ⟨_, rfl⟩
  obtain ⟨K, hK⟩ : ∃ K, kidsOf D p = K := ⟨_, rfl⟩
  rw [hA] at c1 ⊢
  rw [hK] at hlen ⊢
  clear hT hp hρ hA hK fz
  cases A with
  | nil =>
    cases K with
    | nil =>
      simp only [List.length_nil] at c1 hlen
      go_enter Tryz.func72, Tryz.ntmps72
      go_wp2_with fail
      go_ret
      exact ⟨rfl, rfl⟩
    | cons n r =>
      simp only [List.length_nil, List.length_cons] at c1 hlen
      have h1 : ¬ ((r.length : Int) + 1 = 0) := by omega
      go_enter Tryz.func72, Tryz.ntmps72
      go_wp2_with fail
      go_ret
      exact ⟨rfl, rfl⟩
  | cons x r =>
    simp only [List.length_cons] at c1
    have h1 : ¬ ((r.length : Int) + 1 = 0) := by omega
    go_enter Tryz.func72, Tryz.ntmps72
    go_wp2_with fail
    go_ret
    exact ⟨rfl, rfl⟩
set_option maxHeartbeats 6400000 in
theorem drop_end (w : World) (y : Lay) (D : List Way) (hs : List He) (p : Way) (a : Option Addr) (h : He) (hT : Tr w y D hs) (hp : p ∈ D) (hl : hs.length ≤ 100000) (hh : h ∈ hs) (hw : h.way = p) :
    Calls Tryz.prog 45 #[ndV (y.β p), .slice a 0 0, h.ptr] w fun e w' => e = .returned (.tuple #[]) ∧ ∃ y', Tr w' y' D (delH h.s h.i hs) ∧ TrE w w' y y' D D := by
  obtain ⟨a', c', hρ, hHl⟩ := hT.hl hp
  have hlen : (here hs p).length ≤ 100000 := Nat.le_trans (List.length_filter_le _ _) hl
  have HWI : Hid _ := without_any a' c' (here hs p) h w hHl (here_mem.2 ⟨hh, hw⟩) hlen (hT.ord.filter _)
  have HT : Hid _ := hT
  have HP : Hid (p ∈ D) := hp
  have HRO : Hid (y.ρ p = .slice a' (here hs p).length c') := hρ
  have HHD : Hid (h ∈ hs) := hh
  have HW : Hid (h.way = p) := hw
  obtain ⟨c0, c1, _, fz⟩ := (hT.nd p hp).cells
  rw [hρ] at c1
  clear hT hp hl hh hw hρ hHl hlen
  go_enter Tryz.func45, Tryz.ntmps45
  go_wp2_with fail
  refine Calls.mono HWI.out ?_
  rintro e w1 ⟨v', rfl, ho1, hc1, ha1⟩
  obtain ⟨a3, c3, hv3⟩ := owns_shape ho1
  have hT1 : Tr (w1.setCell ⟨y.β p, 1, none⟩ v') { y with ρ := upd y.ρ p v' } D (delH h.s h.i hs) := by
    refine HT.out.setRow HP.out v' ?_ ?_ ?_ (fun q hq => ?_) (del_ord HT.out.ord) (fun x hx => HT.out.held x (del_mem.1 hx).1)
    · rw [HRO.out]; exact hc1
    · rw [here_del]; exact ho1
    · rw [HRO.out]; exact fun k hk => .inl (ha1 k hk)
    · rw [here_del]
      refine del_none (fun x hx hc => hq ?_)
      obtain ⟨h1, h2⟩ := here_mem.1 hx
      have := HT.out.ord.key h1 HHD.out hc.1 hc.2
      rw [← h2, this, HW.out]
  have hTE : TrE w (w1.setCell ⟨y.β p, 1, none⟩ v') y { y with ρ := upd y.ρ p v' } D D := by
    refine ⟨rfl, fun _ _ _ => rfl, ?_, fun k hk => ?_⟩
    · refine Chg.trans (hc1.mono (fun k _ e => .inr (.inr ⟨p, HP.out, by rw [HRO.out]; exact e⟩))) ((Chg.set w1 ⟨y.β p, 1, none⟩ v').mono (fun k _ e => .inl ⟨p, HP.out, e.symm⟩))
    · rcases hk with ⟨q, hq, e⟩ | ⟨q, hq, e⟩ | ⟨q, hq, e⟩
      · exact .inl (.inl ⟨q, hq, e⟩)
      · exact .inl (.inr (.inl ⟨q, hq, e⟩))
      · have e' : (upd y.ρ p v' q).ownBlock = some k := e
        by_cases e2 : q = p
        · subst e2
          rw [upd_same] at e'
          exact .inl (.inr (.inr ⟨q, hq, by rw [HRO.out]; exact ha1 k e'⟩))
        · rw [upd_other _ _ e2] at e'
          exact .inl (.inr (.inr ⟨q, hq, e'⟩))
  have HT1 : Hid _ := hT1
  have HTE : Hid _ := hTE
  have hb1 : w1.heap[y.β p]? = w.heap[y.β p]? := hc1.block _ (by obtain ⟨c, t, hb, _⟩ := HT.out.kβ HP.out; exact lt_of_blk hb) (fun e => HT.out.βρ HP.out HP.out (by rw [HRO.out]; exact e) rfl)
  have d1 : w1.cell? ⟨y.β p, 1, none⟩ = some (.slice a' (here hs p).length c') := by rw [World.cell?_of_block (w := w) hb1]; exact c1
  have gz : ∀ o, w1.frozen? ⟨y.β p, o, none⟩ = false := fun o => by rw [World.frozen?_of_block (w := w) hb1]; exact fz o
  clear hT1 hTE ho1 hc1 ha1 hb1 c0 c1 fz
  subst hv3
  go_wp2_with fail
  exact bodyPost_ret (results_none rfl _ _ _) rfl ⟨rfl, _, HT1.out, HTE.out⟩
theorem TrE.sub {w w' : World} {y : Lay} {D D' : List Way} (hD : ∀ q ∈ D', q ∈ D) (hc : Chg w w' (Wt y D)) : TrE w w' y y D D' :=
  ⟨rfl, fun _ _ _ => rfl, hc, fun k hk => .inl (by
    rcases hk with ⟨q, hq, e⟩ | ⟨q, hq, e⟩ | ⟨q, hq, e⟩
    · exact .inl ⟨q, hD q hq, e⟩
    · exact .inr (.inl ⟨q, hD q hq, e⟩)
    · exact .inr (.inr ⟨q, hD q hq, e⟩))⟩
set_option maxHeartbeats 16000000 in
set_option maxRecDepth 100000 in
theorem drop_any : ∀ (ns : List ByteArray) (w : World) (y : Lay) (D : List Way) (hs : List He) (p : Way) (a : Option Addr) (c : Nat) (h : He), Tr w y D hs → p ++ ns ∈ D → (∀ n ∈ ns, n.size ≤ 1000) → ns.length ≤ 1000 → hs.length ≤ 100000 → NsAt w a c ns → h ∈ hs → h.way = p ++ ns →
    Calls Tryz.prog 45 #[ndV (y.β p), .slice a ns.length c, h.ptr] w fun e w' => e = .returned (.tuple #[]) ∧ ∃ y', Tr w' y' (dropW (delH h.s h.i hs) D p ns) (delH h.s h.i hs) ∧ TrE w w' y y' D (dropW (delH h.s h.i hs) D p ns)
  | [], w, y, D, hs, p, a, c, h, hT, hp, hns, hnl, hl, hN, hh, hw => by
    have hc : c = 0 := hN.1
    subst hc
    rw [List.append_nil] at hp hw
    exact drop_end w y D hs p a h hT hp hl hh hw
  | n :: r, w, y, D, hs, p, a, c, h, hT, hp, hns, hnl, hl, hN, hh, hw => by
    obtain ⟨hc, b, o, cur9, ha, hb9, hcell⟩ := hN.head
    have hr : r.length ≤ 1000 := by rw [List.length_cons] at hnl; omega
    have hpn : p ++ [n] ∈ D := pre_in hT.up r.length r (p ++ [n]) rfl (by rw [List.append_assoc]; exact hp)
    have hpD : p ∈ D := hT.up p n hpn
    have hnn := hns n List.mem_cons_self
    subst ha
    subst hc
    obtain ⟨A', hA'⟩ : ∃ A', (if r.length = 0 then (some ⟨b, o, none⟩ : Option Addr) else (some (⟨b, o, none⟩ : Addr)).map (·.add 1)) = A' := ⟨_, rfl⟩
    have HSL : Hid (∀ w, (Instr.slice 87 (.slice (some ⟨b, o, none⟩) (r.length + 1) (r.length + 1)) (some (.int .i64 1)) none none).run Tryz.prog w = .ok (.slice A' r.length r.length) w) := fun w => by rw [← hA']; exact slice_tail _ r.length w (by omega)
    have HLK : Hid (∀ m : Nat, (Instr.lookup 74 (.map (y.μ p)) (.string n) false).run Tryz.prog (w.drewN m) = .ok (ndV (y.β (p ++ [n]))) (w.drewN m)) := fun m => by
      have := ((hT.below (below_drewN (Below.refl _ _) m)).kids p hpD).get hnn
      unfold kidV at this
      rw [if_pos (inD_iff.2 hpn)] at this
      exact this
    obtain ⟨hs', hhs⟩ : ∃ hs', delH h.s h.i hs = hs' := ⟨_, rfl⟩
    obtain ⟨D1, hD1⟩ : ∃ D1, dropW hs' D (p ++ [n]) r = D1 := ⟨_, rfl⟩
    have hin1 : p ++ [n] ∈ D1 := by rw [← hD1]; exact dropW_keep hpn (Nat.le_refl _)
    have hp1 : p ∈ D1 := by rw [← hD1]; exact dropW_keep hpD (by rw [List.length_append]; omega)
    have hsub1 : ∀ q ∈ D1, q ∈ D := fun q hq => by rw [← hD1] at hq; exact dropW_sub hq
    have HREC : Hid (∀ m : Nat, Calls Tryz.prog 45 #[ndV (y.β (p ++ [n])), .slice A' r.length r.length, h.ptr] (w.drewN m) fun e w' => e = .returned (.tuple #[]) ∧ ∃ y', Tr w' y' D1 hs' ∧ TrE w w' y y' D D1) := fun m => by
      have hb0 : Below w.heap.size w (w.drewN m) := below_drewN (Below.refl _ _) m
      have htl := (hN.tail).below hb0
      rw [hA'] at htl
      refine (drop_any r (w.drewN m) y D hs (p ++ [n]) A' r.length h (hT.below hb0) (by rw [List.append_assoc]; exact hp) (fun k hk => hns k (List.mem_cons_of_mem _ hk)) hr hl htl hh (by rw [hw, List.append_assoc]; rfl)).mono ?_
      rintro e w' ⟨he, y', hT', hE'⟩
      rw [hhs, hD1] at hT' hE'
      exact ⟨he, y', hT', hE'.sig, hE'.beta, ⟨hE'.chg.os, hE'.chg.tape, hE'.chg.output, hE'.chg.size, hE'.chg.block⟩, hE'.new⟩
    have HSTAY : Hid (∀ (w1 : World) (y1 : Lay) (D2 : List Way), TrE w w1 y y1 D D2 → w1.cell? ⟨b, o, none⟩ = some (.string n)) := fun w1 y1 D2 h => by
      rw [World.cell?_of_block (w := w) (h.chg.block b (lt_of_blk hb9) (hT.w9 hb9))]
      exact hcell
    have hres : dropW hs' D p (n :: r) = if bareB D1 hs' (p ++ [n]) then D1.filter (fun q => !decide (q = p ++ [n])) else D1 := by
      rw [← hD1]
      rfl
    have HRES : Hid _ := hres
    rw [hhs]
    obtain ⟨c0, c1, _, fz⟩ := (hT.nd p hpD).cells
    have HP1 : Hid (p ∈ D1) := hp1
    have HIN1 : Hid (p ++ [n] ∈ D1) := hin1
    have HSUB1 : Hid (∀ q ∈ D1, q ∈ D) := hsub1
    have HNN : Hid (n.size ≤ 1000) := hnn
    have HPD : Hid (p ∈ D) := hpD
    have HPN : Hid (p ++ [n] ∈ D) := hpn
    have hn0 : ¬ ((r.length : Int) + 1 = 0) := by omega
    have hn1 : (0 : Int) < (r.length : Int) + 1 := by omega
    have hlk := HLK.out
    clear hT hp hns hnl hl hN hh hw hA' hhs hD1 hin1 hp1 hsub1 hres hnn hpD hpn hb9
    obtain ⟨M, hM⟩ : ∃ M, r.length = M := ⟨_, rfl⟩
    rw [List.length_cons]
    rw [hM] at HSL HREC hn0 hn1 hr ⊢
    clear hM
    go_enter Tryz.func45, Tryz.ntmps45
    go_upto_region 2 with fail
    go_quiet (fail)
    have hsl := HSL.out
    go_upto_region 4 with (first
      | (go_at_call 45; refine Calls.mono (HREC.out _) ?_; rintro e w1 ⟨rfl, y1, hT1, hE1⟩
         have HT1 : Hid (Tr w1 y1 D1 hs') := hT1
         have HE1 : Hid (TrE w w1 y y1 D D1) := hE1
         clear hT1 hE1 hcell hlk c0 c1 fz)
      | fail)
    have hβ1 : y1.β (p ++ [n]) = y.β (p ++ [n]) := HE1.out.beta _ HPN.out HIN1.out
    have hβp : y1.β p = y.β p := HE1.out.beta _ HPD.out HP1.out
    have HBA : Hid _ := bare_any w1 y1 D1 hs' (p ++ [n]) HT1.out HIN1.out
    rw [hβ1] at HBA
    have hcell := HSTAY.out _ _ _ HE1.out
    obtain ⟨c0, _, _, _⟩ := (HT1.out.nd p HP1.out).cells
    rw [hβp] at c0
    cases hba : bareB D1 hs' (p ++ [n]) with
    | false =>
      rw [hba] at HBA HRES
      clear hβ1 hβp
      go_wp2_with (first | (go_at_call 72; refine Calls.mono HBA.out ?_; rintro e w2 ⟨rfl, rfl⟩) | fail)
      go_end0
      refine ⟨rfl, y1, ?_⟩
      rw [show dropW hs' D p (n :: r) = D1 from HRES.out]
      exact ⟨HT1.out, HE1.out⟩
    | true =>
      rw [hba] at HBA HRES
      have HRES' : Hid (dropW hs' D p (n :: r) = D1.filter (fun q => !decide (q = p ++ [n]))) := HRES.out
      obtain ⟨hbe, hbk⟩ := bareB_iff.1 hba
      obtain ⟨mb, Dm, hmb, hmp, hkr⟩ : ∃ mb Dm, y1.μ p = some mb ∧ MapAt w1 mb (Maps.size Dm) Dm ∧ KR Dm p D1 y1.β := by
        rcases HT1.out.kids p HP1.out with ⟨_, h2⟩ | ⟨mb, Dm, h1, h2, h3⟩
        · exact absurd HIN1.out (h2 n)
        · exact ⟨mb, Dm, h1, h2, h3⟩
      rw [hmb] at c0
      obtain ⟨w3, hdel, hm3, hc3⟩ := kids_del (w := w1.drew) (map_below hmp (below_drew (Below.refl _ _))) HNN.out 0
      have hdel' : ∀ ty, (Builtin.delete_ #[74, 9] ty #[.map (some mb), .string n]).run Tryz.prog w1.drew = .ok (.tuple #[]) w3 := fun ty => hdel
      have hc3' : Chg w1 w3 (fun k => k = mb) := ⟨hc3.os, hc3.tape, hc3.output, hc3.size, hc3.block⟩
      have HT3 : Hid (Tr w3 y1 (D1.filter (fun q => !decide (q = p ++ [n]))) hs') := HT1.out.dropKid HP1.out HIN1.out hbk hmb hkr hc3' hm3
      have HE3 : Hid (TrE w w3 y y1 D (D1.filter (fun q => !decide (q = p ++ [n])))) := HE1.out.trans (TrE.sub (fun q hq => (List.mem_filter.1 hq).1) (hc3'.mono (fun k _ e => .inr (.inl ⟨p, HP1.out, by rw [e]; exact hmb⟩)))) (fun q hq hq2 => (List.mem_filter.1 hq2).1)
      clear hβ1 hβp hm3 hc3 hc3' hmp hkr hmb hdel hbe hbk
      go_upto_region 5 with (first | (go_at_call 72; refine Calls.mono HBA.out ?_; rintro e w2 ⟨rfl, rfl⟩) | fail)
      go_region
      go_wp2_with fail
      go_end0
      refine ⟨rfl, y1, ?_⟩
      rw [HRES'.out]
      exact ⟨HT3.out, HE3.out⟩
end Go.Proofs.YtbblckcjedjbcaaGreatDoor
