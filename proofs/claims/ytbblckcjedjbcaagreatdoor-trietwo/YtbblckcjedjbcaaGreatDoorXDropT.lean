import Derived.Test.YtbblckcjedjbcaaGreatDoorXAt
namespace Go.Proofs.YtbblckcjedjbcaaGreatDoor
open Go.RowKit Go.Maps
set_option linter.unusedVariables false
set_option linter.unusedSimpArgs false

/-- A node without anything goes. -/
theorem Tr.dropKid {w w3 : World} {y : Lay} {D : List Way} {hs : List He} (h : Tr w y D hs) {p : Way} (hp : p ∈ D) {n : ByteArray} (hq : p ++ [n] ∈ D) (hno : ∀ m, p ++ [n] ++ [m] ∉ D) {mb : Nat} {Dm : DataW Value} (hμ : y.μ p = some mb) (hkr : KR Dm p D y.β)
    (hc : Chg w w3 (fun k => k = mb)) (hm : MapAt w3 mb (Maps.size (Dm.del (ky n))) (Dm.del (ky n))) :
    Tr w3 y (D.filter (fun q => !decide (q = p ++ [n]))) hs := by
  have hmem : ∀ q, q ∈ D.filter (fun q => !decide (q = p ++ [n])) ↔ q ∈ D ∧ q ≠ p ++ [n] := fun q => by simp
  refine ⟨h.ord, (hmem _).2 ⟨h.root, by simp⟩, fun q m hq' => ?_, List.Pairwise.filter _ h.dn, fun q hq' => h.sml q ((hmem q).1 hq').1, fun q hq' r hr => h.inj q ((hmem q).1 hq').1 r ((hmem r).1 hr).1, fun q hq' => ?_, fun q hq' => ?_, fun q hq' r hr => h.rap q ((hmem q).1 hq').1 r ((hmem r).1 hr).1, fun q hq' => ?_, fun q hq' r hr => h.map q ((hmem q).1 hq').1 r ((hmem r).1 hr).1, fun x hx => ?_⟩
  · obtain ⟨h1, h2⟩ := (hmem _).1 hq'
    refine (hmem _).2 ⟨h.up q m h1, fun e => ?_⟩
    rw [e] at h1
    exact hno m h1
  · have h1 := ((hmem q).1 hq').1
    exact (h.nd q h1).chg hc (fun e => h.βμ h1 hp hμ e)
  · have h1 := ((hmem q).1 hq').1
    exact owns_chg (h.row q h1) hc (fun k hk e => h.ρμ h1 hp hk hμ e)
  · have h1 := ((hmem q).1 hq').1
    by_cases e : q = p
    · subst e
      rw [hμ]
      refine .inr ⟨mb, _, rfl, hm, hkr.tidy.del _, hkr.str.del _, fun m => ?_, fun m z hm' => ?_⟩
      · rw [hmem]
        by_cases e : m = n
        · subst e
          rw [Maps.has_del_same]
          simp
        · rw [Maps.has_del_other (fun e' => e (kyX_inj e')), hkr.has m]
          simp [e]
      · obtain ⟨h3, h4⟩ := (hmem _).1 hm'
        have e : m ≠ n := fun e => h4 (by rw [e])
        rw [Maps.atKey_del_other (fun e' => e (kyX_inj e'))]
        exact hkr.look m z h3
    · rcases h.kids q h1 with ⟨h2, h3⟩ | ⟨b, Dq, h2, h3, h4⟩
      · exact .inl ⟨h2, fun m hm' => h3 m ((hmem _).1 hm').1⟩
      · refine .inr ⟨b, Dq, h2, map_chg h3 hc (fun e' => h.map q h1 p hp e b h2 (by rw [e']; exact hμ)), h4.tidy, h4.str, fun m => ?_, fun m z hm' => h4.look m z ((hmem _).1 hm').1⟩
        rw [h4.has m, hmem]
        constructor
        · exact fun h5 => ⟨h5, fun e' => e (List.append_inj' e' rfl).1⟩
        · exact fun h5 => h5.1
  · exact (h.held x hx).chg hc (h.hμ hp (h.held x hx) hμ)
/-- Whether a node has neither watches nor kids. -/
def bareB (D : List Way) (hs : List He) (q : Way) : Bool := (here hs q).isEmpty && (kidsOf D q).isEmpty
theorem bareB_iff {D : List Way} {hs : List He} {q : Way} : bareB D hs q = true ↔ here hs q = [] ∧ ∀ m, q ++ [m] ∉ D := by
  unfold bareB
  rw [Bool.and_eq_true, List.isEmpty_iff, List.isEmpty_iff, List.eq_nil_iff_forall_not_mem (l := kidsOf D q)]
  constructor
  · rintro ⟨h1, h2⟩
    exact ⟨h1, fun m hm => h2 m (kids_mem.2 hm)⟩
  · rintro ⟨h1, h2⟩
    exact ⟨h1, fun m hm => h2 m (kids_mem.1 hm)⟩
/-- The nodes that are left. -/
def dropW (hs : List He) : List Way → Way → List ByteArray → List Way
  | D, _, [] => D
  | D, p, n :: r => if bareB (dropW hs D (p ++ [n]) r) hs (p ++ [n]) then (dropW hs D (p ++ [n]) r).filter (fun q => !decide (q = p ++ [n])) else dropW hs D (p ++ [n]) r
theorem dropW_sub {hs : List He} {D : List Way} {ns : List ByteArray} {p q : Way} (h : q ∈ dropW hs D p ns) : q ∈ D := by
  induction ns generalizing p with
  | nil => exact h
  | cons n r ih =>
    unfold dropW at h
    split at h
    · exact ih (List.mem_filter.1 h).1
    · exact ih h
theorem dropW_keep {hs : List He} {D : List Way} {ns : List ByteArray} {p q : Way} (h : q ∈ D) (hl : q.length ≤ p.length) : q ∈ dropW hs D p ns := by
  induction ns generalizing p with
  | nil => exact h
  | cons n r ih =>
    have h1 := ih (p := p ++ [n]) (by rw [List.length_append]; omega)
    unfold dropW
    split
    · refine List.mem_filter.2 ⟨h1, ?_⟩
      have : q ≠ p ++ [n] := fun e => by rw [e, List.length_append] at hl; simp at hl; omega
      simp [this]
    · exact h1
def Need (hs : List He) (q : Way) : Prop := ∃ x ∈ hs, q <+: x.way
theorem Need.up {hs : List He} {q r : Way} (h : Need hs r) (hp : q <+: r) : Need hs q := by
  obtain ⟨x, hx, h1⟩ := h
  exact ⟨x, hx, hp.trans h1⟩
theorem dropW_iff {hs : List He} {D : List Way} {wy : Way} (hA : ∀ q ∈ D, q = [] ∨ q <+: wy ∨ Need hs q) (hB : ∀ q, Need hs q → q ∈ D) (ns : List ByteArray) (p : Way) (hw : wy = p ++ ns) (q : Way) : q ∈ dropW hs D p ns ↔ q ∈ D ∧ (¬ (p <+: q ∧ q ≠ p ∧ q <+: wy) ∨ Need hs q) := by
  induction ns generalizing p q with
  | nil =>
    rw [List.append_nil] at hw
    subst hw
    show q ∈ D ↔ _
    constructor
    · intro h
      refine ⟨h, .inl ?_⟩
      rintro ⟨h1, h2, h3⟩
      exact h2 (h3.eq_of_length_le h1.length_le)
    · exact fun h => h.1
  | cons n r ih =>
    have hw' : wy = p ++ [n] ++ r := by rw [hw, List.append_assoc]; rfl
    have ihq := fun q => ih (p ++ [n]) hw' q
    have hbare : bareB (dropW hs D (p ++ [n]) r) hs (p ++ [n]) = true ↔ ¬ Need hs (p ++ [n]) := by
      rw [bareB_iff]
      constructor
      · rintro ⟨h1, h2⟩ ⟨x, hx, h3⟩
        by_cases e : x.way = p ++ [n]
        · have : x ∈ here hs (p ++ [n]) := here_mem.2 ⟨hx, e⟩
          rw [h1] at this
          cases this
        · obtain ⟨m, t, e2⟩ := way_split h3 e
          have hn : Need hs (p ++ [n] ++ [m]) := ⟨x, hx, ⟨t, by rw [e2]; simp⟩⟩
          exact h2 m ((ihq _).2 ⟨hB _ hn, .inr hn⟩)
      · intro hn
        refine ⟨?_, fun m hm => ?_⟩
        · rw [List.eq_nil_iff_forall_not_mem]
          intro x hx
          obtain ⟨h1, h2⟩ := here_mem.1 hx
          exact hn ⟨x, h1, by rw [h2]; exact List.prefix_refl _⟩
        · obtain ⟨h1, h2⟩ := (ihq _).1 hm
          have hne : ¬ Need hs (p ++ [n] ++ [m]) := fun h => hn (h.up (List.prefix_append _ _))
          rcases hA _ h1 with e | e | e
          · simp at e
          · refine h2.elim (fun h3 => h3 ⟨List.prefix_append _ _, fun e2 => ?_, e⟩) hne
            have := congrArg List.length e2
            simp at this
          · exact hne e
    have hon : ∀ q, (p <+: q ∧ q ≠ p ∧ q <+: wy) ↔ (q = p ++ [n] ∨ (p ++ [n] <+: q ∧ q ≠ p ++ [n] ∧ q <+: wy)) := fun q => by
      constructor
      · rintro ⟨h1, h2, h3⟩
        have h4 : p ++ [n] <+: q := pre_one h1 (by rw [hw] at h3; exact h3) h2
        by_cases e : q = p ++ [n]
        · exact .inl e
        · exact .inr ⟨h4, e, h3⟩
      · rintro (rfl | ⟨h1, h2, h3⟩)
        · refine ⟨List.prefix_append _ _, by simp, ?_⟩
          rw [hw']
          exact List.prefix_append _ _
        · refine ⟨(List.prefix_append p [n]).trans h1, fun e => ?_, h3⟩
          have := h1.length_le
          rw [e, List.length_append, List.length_singleton] at this
          omega
    unfold dropW
    rw [hon]
    by_cases hN : Need hs (p ++ [n])
    · rw [if_neg (fun e => hbare.1 e hN), ihq]
      constructor
      · rintro ⟨h1, h2⟩
        refine ⟨h1, ?_⟩
        by_cases e : q = p ++ [n]
        · exact .inr (e ▸ hN)
        · exact h2.imp (fun h3 h4 => h4.elim e h3) id
      · rintro ⟨h1, h2⟩
        exact ⟨h1, h2.imp (fun h3 h4 => h3 (.inr h4)) id⟩
    · rw [if_pos (hbare.2 hN), List.mem_filter, ihq]
      simp only [Bool.not_eq_true', decide_eq_false_iff_not]
      constructor
      · rintro ⟨⟨h1, h2⟩, h3⟩
        exact ⟨h1, h2.imp (fun h4 h5 => h5.elim h3 h4) id⟩
      · rintro ⟨h1, h2⟩
        refine ⟨⟨h1, h2.imp (fun h3 h4 => h3 (.inr h4)) id⟩, fun e => ?_⟩
        exact h2.elim (fun h3 => h3 (.inl e)) (fun h3 => hN (e ▸ h3))
theorem here_del {s i : Int} {hs : List He} (q : Way) : here (delH s i hs) q = delH s i (here hs q) := by
  unfold here
  exact del_filter s i _ hs
end Go.Proofs.YtbblckcjedjbcaaGreatDoor
namespace Go.Proofs.YtbblckcjedjbcaaGreatDoor
open Go.RowKit Go.Maps
set_option linter.unusedVariables false
set_option linter.unusedSimpArgs false

theorem KidsAt.len {w : World} {m : Option Nat} {p : Way} {D : List Way} {β : Way → Nat} (h : KidsAt w m p D β) (hd : D.Nodup) (ty : TypeId) : (Builtin.len_ #[74] ty #[.map m]).run Tryz.prog w = .ok (.int .i64 ((kidsOf D p).length : Nat)) w := by
  rcases h with ⟨rfl, h2⟩ | ⟨b, Dm, rfl, h2, h3⟩
  · have : kidsOf D p = [] := by
      rw [List.eq_nil_iff_forall_not_mem]
      intro n hn
      exact h2 n (kids_mem.1 hn)
    rw [this]
    exact Maps.len_nil Tryz.underlying74 ty
  · rw [← h3.size hd]
    exact h2.len Tryz.underlying74 ty
set_option maxHeartbeats 6400000 in
theorem bare_any (w : World) (y : Lay) (D : List Way) (hs : List He) (p : Way) (hT : Tr w y D hs) (hp : p ∈ D) :
    Calls Tryz.prog 72 #[ndV (y.β p)] w fun e w' => e = .returned (.bool (bareB D hs p)) ∧ w' = w := by
  obtain ⟨c0, c1, _, fz⟩ := (hT.nd p hp).cells
  obtain ⟨a, c, hρ, _⟩ := hT.hlp hp
  rw [hρ] at c1
  have hlen := fun ty => (hT.kids p hp).len hT.dn ty
  unfold bareB
  obtain ⟨A, hA⟩ : ∃ A, here hs p = A := ⟨_, rfl⟩
  obtain ⟨K, hK⟩ : ∃ K, kidsOf D p = K := ⟨_, rfl⟩
  rw [hA] at c1 ⊢
  rw [hK] at hlen ⊢
  clear hT hp hρ hA hK fz
  cases A with
  | nil =>
    cases K with
    | nil =>
      simp only [List.length_nil] at c1 hlen
      go_enter Tryz.func72, Tryz.ntmps72
      go_wp2_with fail
      go_ret
      exact ⟨rfl, rfl⟩
    | cons n r =>
      simp only [List.length_nil, List.length_cons] at c1 hlen
      have h1 : ¬ ((r.length : Int) + 1 = 0) := by omega
      go_enter Tryz.func72, Tryz.ntmps72
      go_wp2_with fail
      go_ret
      exact ⟨rfl, rfl⟩
  | cons x r =>
    simp only [List.length_cons] at c1
    have h1 : ¬ ((r.length : Int) + 1 = 0) := by omega
    go_enter Tryz.func72, Tryz.ntmps72
    go_wp2_with fail
    go_ret
    exact ⟨rfl, rfl⟩
set_option maxHeartbeats 6400000 in
theorem drop_end (w : World) (y : Lay) (D : List Way) (hs : List He) (p : Way) (a : Option Addr) (h : He) (hT : Tr w y D hs) (hp : p ∈ D) (hl : hs.length ≤ 100000) (hh : h ∈ hs) (hw : h.way = p) :
    Calls Tryz.prog 45 #[ndV (y.β p), .slice a 0 0, h.ptr] w fun e w' => e = .returned (.tuple #[]) ∧ ∃ y', Tr w' y' D (delH h.s h.i hs) ∧ TrE w w' y y' D D := by
  obtain ⟨a', c', hρ, hHl⟩ := hT.hl hp
  have hlen : (here hs p).length ≤ 100000 := Nat.le_trans (List.length_filter_le _ _) hl
  have HWI : Hid _ := without_any a' c' (here hs p) h w hHl (here_mem.2 ⟨hh, hw⟩) hlen (hT.ord.filter _)
  have HT : Hid _ := hT
  have HP : Hid (p ∈ D) := hp
  have HRO : Hid (y.ρ p = .slice a' (here hs p).length c') := hρ
  have HHD : Hid (h ∈ hs) := hh
  have HW : Hid (h.way = p) := hw
  obtain ⟨c0, c1, _, fz⟩ := (hT.nd p hp).cells
  rw [hρ] at c1
  clear hT hp hl hh hw hρ hHl hlen
  go_enter Tryz.func45, Tryz.ntmps45
  go_wp2_with fail
  refine Calls.mono HWI.out ?_
  rintro e w1 ⟨v', rfl, ho1, hc1, ha1⟩
  obtain ⟨a3, c3, hv3⟩ := owns_shape ho1
  have hT1 : Tr (w1.setCell ⟨y.β p, 1, none⟩ v') { y with ρ := upd y.ρ p v' } D (delH h.s h.i hs) := by
    refine HT.out.setRow HP.out v' ?_ ?_ ?_ (fun q hq => ?_) (del_ord HT.out.ord) (fun x hx => HT.out.held x (del_mem.1 hx).1)
    · rw [HRO.out]; exact hc1
    · rw [here_del]; exact ho1
    · rw [HRO.out]; exact fun k hk => .inl (ha1 k hk)
    · rw [here_del]
      refine del_none (fun x hx hc => hq ?_)
      obtain ⟨h1, h2⟩ := here_mem.1 hx
      have := HT.out.ord.key h1 HHD.out hc.1 hc.2
      rw [← h2, this, HW.out]
  have hTE : TrE w (w1.setCell ⟨y.β p, 1, none⟩ v') y { y with ρ := upd y.ρ p v' } D D := by
    refine ⟨rfl, fun _ _ _ => rfl, ?_, fun k hk => ?_⟩
    · refine Chg.trans (hc1.mono (fun k _ e => .inr (.inr ⟨p, HP.out, by rw [HRO.out]; exact e⟩))) ((Chg.set w1 ⟨y.β p, 1, none⟩ v').mono (fun k _ e => .inl ⟨p, HP.out, e.symm⟩))
    · rcases hk with ⟨q, hq, e⟩ | ⟨q, hq, e⟩ | ⟨q, hq, e⟩
      · exact .inl (.inl ⟨q, hq, e⟩)
      · exact .inl (.inr (.inl ⟨q, hq, e⟩))
      · have e' : (upd y.ρ p v' q).ownBlock = some k := e
        by_cases e2 : q = p
        · subst e2
          rw [upd_same] at e'
          exact .inl (.inr (.inr ⟨q, hq, by rw [HRO.out]; exact ha1 k e'⟩))
        · rw [upd_other _ _ e2] at e'
          exact .inl (.inr (.inr ⟨q, hq, e'⟩))
  have HT1 : Hid _ := hT1
  have HTE : Hid _ := hTE
  have hb1 : w1.heap[y.β p]? = w.heap[y.β p]? := hc1.block _ (by obtain ⟨c, t, hb, _⟩ := HT.out.kβ HP.out; exact lt_of_blk hb) (fun e => HT.out.βρ HP.out HP.out (by rw [HRO.out]; exact e) rfl)
  have d1 : w1.cell? ⟨y.β p, 1, none⟩ = some (.slice a' (here hs p).length c') := by rw [World.cell?_of_block (w := w) hb1]; exact c1
  have gz : ∀ o, w1.frozen? ⟨y.β p, o, none⟩ = false := fun o => by rw [World.frozen?_of_block (w := w) hb1]; exact fz o
  clear hT1 hTE ho1 hc1 ha1 hb1 c0 c1 fz
  subst hv3
  go_wp2_with fail
  exact bodyPost_ret (results_none rfl _ _ _) rfl ⟨rfl, _, HT1.out, HTE.out⟩
theorem TrE.sub {w w' : World} {y : Lay} {D D' : List Way} (hD : ∀ q ∈ D', q ∈ D) (hc : Chg w w' (Wt y D)) : TrE w w' y y D D' :=
  ⟨rfl, fun _ _ _ => rfl, hc, fun k hk => .inl (by
    rcases hk with ⟨q, hq, e⟩ | ⟨q, hq, e⟩ | ⟨q, hq, e⟩
    · exact .inl ⟨q, hD q hq, e⟩
    · exact .inr (.inl ⟨q, hD q hq, e⟩)
    · exact .inr (.inr ⟨q, hD q hq, e⟩))⟩
set_option maxHeartbeats 16000000 in
set_option maxRecDepth 100000 in
theorem drop_any : ∀ (ns : List ByteArray) (w : World) (y : Lay) (D : List Way) (hs : List He) (p : Way) (a : Option Addr) (c : Nat) (h : He), Tr w y D hs → p ++ ns ∈ D → (∀ n ∈ ns, n.size ≤ 1000) → ns.length ≤ 1000 → hs.length ≤ 100000 → NsAt w a c ns → h ∈ hs → h.way = p ++ ns →
    Calls Tryz.prog 45 #[ndV (y.β p), .slice a ns.length c, h.ptr] w fun e w' => e = .returned (.tuple #[]) ∧ ∃ y', Tr w' y' (dropW (delH h.s h.i hs) D p ns) (delH h.s h.i hs) ∧ TrE w w' y y' D (dropW (delH h.s h.i hs) D p ns)
  | [], w, y, D, hs, p, a, c, h, hT, hp, hns, hnl, hl, hN, hh, hw => by
    have hc : c = 0 := hN.1
    subst hc
    rw [List.append_nil] at hp hw
    exact drop_end w y D hs p a h hT hp hl hh hw
  | n :: r, w, y, D, hs, p, a, c, h, hT, hp, hns, hnl, hl, hN, hh, hw => by
    obtain ⟨hc, b, o, cur9, ha, hb9, hcell⟩ := hN.head
    have hr : r.length ≤ 1000 := by rw [List.length_cons] at hnl; omega
    have hpn : p ++ [n] ∈ D := pre_in hT.up r.length r (p ++ [n]) rfl (by rw [List.append_assoc]; exact hp)
    have hpD : p ∈ D := hT.up p n hpn
    have hnn := hns n List.mem_cons_self
    subst ha
    subst hc
    obtain ⟨A', hA'⟩ : ∃ A', (if r.length = 0 then (some ⟨b, o, none⟩ : Option Addr) else (some (⟨b, o, none⟩ : Addr)).map (·.add 1)) = A' := ⟨_, rfl⟩
    have HSL : Hid (∀ w, (Instr.slice 87 (.slice (some ⟨b, o, none⟩) (r.length + 1) (r.length + 1)) (some (.int .i64 1)) none none).run Tryz.prog w = .ok (.slice A' r.length r.length) w) := fun w => by rw [← hA']; exact slice_tail _ r.length w (by omega)
    have HLK : Hid (∀ m : Nat, (Instr.lookup 74 (.map (y.μ p)) (.string n) false).run Tryz.prog (w.drewN m) = .ok (ndV (y.β (p ++ [n]))) (w.drewN m)) := fun m => by
      have := ((hT.below (below_drewN (Below.refl _ _) m)).kids p hpD).get hnn
      unfold kidV at this
      rw [if_pos (inD_iff.2 hpn)] at this
      exact this
    obtain ⟨hs', hhs⟩ : ∃ hs', delH h.s h.i hs = hs' := ⟨_, rfl⟩
    obtain ⟨D1, hD1⟩ : ∃ D1, dropW hs' D (p ++ [n]) r = D1 := ⟨_, rfl⟩
    have hin1 : p ++ [n] ∈ D1 := by rw [← hD1]; exact dropW_keep hpn (Nat.le_refl _)
    have hp1 : p ∈ D1 := by rw [← hD1]; exact dropW_keep hpD (by rw [List.length_append]; omega)
    have hsub1 : ∀ q ∈ D1, q ∈ D := fun q hq => by rw [← hD1] at hq; exact dropW_sub hq
    have HREC : Hid (∀ m : Nat, Calls Tryz.prog 45 #[ndV (y.β (p ++ [n])), .slice A' r.length r.length, h.ptr] (w.drewN m) fun e w' => e = .returned (.tuple #[]) ∧ ∃ y', Tr w' y' D1 hs' ∧ TrE w w' y y' D D1) := fun m => by
      have hb0 : Below w.heap.size w (w.drewN m) := below_drewN (Below.refl _ _) m
      have htl := (hN.tail).below hb0
      rw [hA'] at htl
      refine (drop_any r (w.drewN m) y D hs (p ++ [n]) A' r.length h (hT.below hb0) (by rw [List.append_assoc]; exact hp) (fun k hk => hns k (List.mem_cons_of_mem _ hk)) hr hl htl hh (by rw [hw, List.append_assoc]; rfl)).mono ?_
      rintro e w' ⟨he, y', hT', hE'⟩
      rw [hhs, hD1] at hT' hE'
      exact ⟨he, y', hT', hE'.sig, hE'.beta, ⟨hE'.chg.os, hE'.chg.tape, hE'.chg.output, hE'.chg.size, hE'.chg.block⟩, hE'.new⟩
    have HSTAY : Hid (∀ (w1 : World) (y1 : Lay) (D2 : List Way), TrE w w1 y y1 D D2 → w1.cell? ⟨b, o, none⟩ = some (.string n)) := fun w1 y1 D2 h => by
      rw [World.cell?_of_block (w := w) (h.chg.block b (lt_of_blk hb9) (hT.w9 hb9))]
      exact hcell
    have hres : dropW hs' D p (n :: r) = if bareB D1 hs' (p ++ [n]) then D1.filter (fun q => !decide (q = p ++ [n])) else D1 := by
      rw [← hD1]
      rfl
    have HRES : Hid _ := hres
    rw [hhs]
    obtain ⟨c0, c1, _, fz⟩ := (hT.nd p hpD).cells
    have HP1 : Hid (p ∈ D1) := hp1
    have HIN1 : Hid (p ++ [n] ∈ D1) := hin1
    have HSUB1 : Hid (∀ q ∈ D1, q ∈ D) := hsub1
    have HNN : Hid (n.size ≤ 1000) := hnn
    have HPD : Hid (p ∈ D) := hpD
    have HPN : Hid (p ++ [n] ∈ D) := hpn
    have hn0 : ¬ ((r.length : Int) + 1 = 0) := by omega
    have hn1 : (0 : Int) < (r.length : Int) + 1 := by omega
    have hlk := HLK.out
    clear hT hp hns hnl hl hN hh hw hA' hhs hD1 hin1 hp1 hsub1 hres hnn hpD hpn hb9
    obtain ⟨M, hM⟩ : ∃ M, r.length = M := ⟨_, rfl⟩
    rw [List.length_cons]
    rw [hM] at HSL HREC hn0 hn1 hr ⊢
    clear hM
    go_enter Tryz.func45, Tryz.ntmps45
    go_upto_region 2 with fail
    go_quiet (fail)
    have hsl := HSL.out
    go_upto_region 4 with (first
      | (go_at_call 45; refine Calls.mono (HREC.out _) ?_; rintro e w1 ⟨rfl, y1, hT1, hE1⟩
         have HT1 : Hid (Tr w1 y1 D1 hs') := hT1
         have HE1 : Hid (TrE w w1 y y1 D D1) := hE1
         clear hT1 hE1 hcell hlk c0 c1 fz)
      | fail)
    have hβ1 : y1.β (p ++ [n]) = y.β (p ++ [n]) := HE1.out.beta _ HPN.out HIN1.out
    have hβp : y1.β p = y.β p := HE1.out.beta _ HPD.out HP1.out
    have HBA : Hid _ := bare_any w1 y1 D1 hs' (p ++ [n]) HT1.out HIN1.out
    rw [hβ1] at HBA
    have hcell := HSTAY.out _ _ _ HE1.out
    obtain ⟨c0, _, _, _⟩ := (HT1.out.nd p HP1.out).cells
    rw [hβp] at c0
    cases hba : bareB D1 hs' (p ++ [n]) with
    | false =>
      rw [hba] at HBA HRES
      clear hβ1 hβp
      go_wp2_with (first | (go_at_call 72; refine Calls.mono HBA.out ?_; rintro e w2 ⟨rfl, rfl⟩) | fail)
      go_end0
      refine ⟨rfl, y1, ?_⟩
      rw [show dropW hs' D p (n :: r) = D1 from HRES.out]
      exact ⟨HT1.out, HE1.out⟩
    | true =>
      rw [hba] at HBA HRES
      have HRES' : Hid (dropW hs' D p (n :: r) = D1.filter (fun q => !decide (q = p ++ [n]))) := HRES.out
      obtain ⟨hbe, hbk⟩ := bareB_iff.1 hba
      obtain ⟨mb, Dm, hmb, hmp, hkr⟩ : ∃ mb Dm, y1.μ p = some mb ∧ MapAt w1 mb (Maps.size Dm) Dm ∧ KR Dm p D1 y1.β := by
        rcases HT1.out.kids p HP1.out with ⟨_, h2⟩ | ⟨mb, Dm, h1, h2, h3⟩
        · exact absurd HIN1.out (h2 n)
        · exact ⟨mb, Dm, h1, h2, h3⟩
      rw [hmb] at c0
      obtain ⟨w3, hdel, hm3, hc3⟩ := kids_del (w := w1.drew) (map_below hmp (below_drew (Below.refl _ _))) HNN.out 0
      have hdel' : ∀ ty, (Builtin.delete_ #[74, 9] ty #[.map (some mb), .string n]).run Tryz.prog w1.drew = .ok (.tuple #[]) w3 := fun ty => hdel
      have hc3' : Chg w1 w3 (fun k => k = mb) := ⟨hc3.os, hc3.tape, hc3.output, hc3.size, hc3.block⟩
      have HT3 : Hid (Tr w3 y1 (D1.filter (fun q => !decide (q = p ++ [n]))) hs') := HT1.out.dropKid HP1.out HIN1.out hbk hmb hkr hc3' hm3
      have HE3 : Hid (TrE w w3 y y1 D (D1.filter (fun q => !decide (q = p ++ [n])))) := HE1.out.trans (TrE.sub (fun q hq => (List.mem_filter.1 hq).1) (hc3'.mono (fun k _ e => .inr (.inl ⟨p, HP1.out, by rw [e]; exact hmb⟩)))) (fun q hq hq2 => (List.mem_filter.1 hq2).1)
      clear hβ1 hβp hm3 hc3 hc3' hmp hkr hmb hdel hbe hbk
      go_upto_region 5 with (first | (go_at_call 72; refine Calls.mono HBA.out ?_; rintro e w2 ⟨rfl, rfl⟩) | fail)
      go_region
      go_wp2_with fail
      go_end0
      refine ⟨rfl, y1, ?_⟩
      rw [HRES'.out]
      exact ⟨HT3.out, HE3.out⟩
end Go.Proofs.YtbblckcjedjbcaaGreatDoor
namespace Go.Proofs.YtbblckcjedjbcaaGreatDoor
open Go.RowKit Go.Maps
set_option linter.unusedVariables false
set_option linter.unusedSimpArgs false

/-- The tree has let go of h; the sessions' lists have it still. -/
structure MidD (w W : World) (B : Nat) (y : Lay) (D : List Way) (sb : Nat) (τ : Int → Value) (hs hs' : List He) (y7 : Lay) (D7 : List Way) : Prop where
  tr : Tr W y7 D7 hs'
  top : y7.β [] = B
  sig : y7.σ = .map (some sb)
  ses : SesAt W (some sb) τ hs
  held : ∀ x ∈ hs, HdAt W x
  rho : ∀ s, ∀ p ∈ D7, ∀ k, (τ s).ownBlock = some k → (y7.ρ p).ownBlock ≠ some k
  mu : ∀ p ∈ D7, ∀ k, some sb = some k → y7.μ p ≠ some k
  chg : Chg w W (Tf y D (some sb) τ)
  new : ∀ k, Tf y7 D7 (some sb) τ k → Tf y D (some sb) τ k ∨ w.heap.size ≤ k
theorem midD {w w5 w6 : World} {B : Nat} {y y6 : Lay} {D D6 : List Way} {τ : Int → Value} {hs hs' : List He} {sb : Nat} (hT : TrieAt w B y D (some sb) τ hs) (hb : Below w.heap.size w w5) (hT6 : Tr w6 y6 D6 hs') (hE : TrE w5 w6 y y6 D D6) (hr : [] ∈ D6) : MidD w w6 B y D sb τ hs hs' y6 D6 := by
  have hap : ∀ k, Sf (some sb) τ k → ¬ Wt y D k := fun k hk hw => hT.apart hk (.inl hw)
  have hlt : ∀ k, Sf (some sb) τ k → k < w.heap.size := fun k hk => hT.ses.lt hk
  have hnw : ∀ k, Sf (some sb) τ k → ¬ Wt y6 D6 k := fun k hk hw => by
    rcases hE.new k hw with e | e
    · exact hap k hk e
    · have := hlt k hk
      have := hb.size
      omega
  refine ⟨hT6, ?_, hE.sig.trans hT.sig, (hT.ses.below hb).chg hE.chg (fun k hk => hap k hk), fun x hx => ((hT.tr.held x hx).below hb).chg hE.chg (hT.tr.wh (hT.tr.held x hx)), fun s p hp k hk hk' => hnw k (.inr ⟨s, hk⟩) (.inr (.inr ⟨p, hp, hk'⟩)), fun p hp k hk hk' => hnw k (.inl hk) (.inr (.inl ⟨p, hp, hk'⟩)), ?_, fun k hk => ?_⟩
  · rw [hE.beta [] hT.tr.root hr, hT.top]
  · exact (Chg.beh hb hE.chg).mono (fun k _ e => .inl e)
  · rcases hk with hk | hk
    · exact (hE.new k hk).imp (fun e => .inl e) (fun e => Nat.le_trans hb.size e)
    · exact .inl (.inr hk)
/-- A turn of the sessions' map behind it. -/
theorem MidD.end {w W w8 : World} {B : Nat} {y : Lay} {D : List Way} {sb : Nat} {τ τ' : Int → Value} {hs hs' : List He} {y7 : Lay} {D7 : List Way} (hM : MidD w W B y D sb τ hs hs' y7 D7) (hS8 : SesAt w8 (some sb) τ' hs') (hc8 : Chg W w8 (Sf (some sb) τ)) (hτ : ∀ t k, (τ' t).ownBlock = some k → (τ t).ownBlock = some k)
    (hok : ∀ x ∈ hs', parse x.p = (0, x.way)) (hcls : ∀ q, q ∈ D7 ↔ q = [] ∨ ∃ x ∈ hs', q <+: x.way) :
    TrieAt w8 B y7 D7 (some sb) τ' hs' ∧ TfE w w8 y y7 D D7 (some sb) (some sb) τ τ' := by
  have hsf : ∀ k, Sf (some sb) τ' k → Sf (some sb) τ k := fun k hk => hk.imp id (fun ⟨s, e⟩ => ⟨s, hτ s k e⟩)
  refine ⟨⟨hM.tr.chg hc8 (fun k hk hs => Go.Proofs.YtbblckcjedjbcaaGreatDoor.apart hM.tr hM.ses hM.rho hM.mu hs hk), hM.top, hM.sig, hS8, fun s p hp k hk => hM.rho s p hp k (hτ s k hk), hM.mu, hok, hcls⟩, ?_, fun k hk => ?_⟩
  · refine ⟨hc8.os.trans hM.chg.os, hc8.tape.trans hM.chg.tape, hc8.output.trans hM.chg.output, Nat.le_trans hM.chg.size hc8.size, fun k hk hn => (hc8.block k (Nat.lt_of_lt_of_le hk hM.chg.size) (fun hs => ?_)).trans (hM.chg.block k hk hn)⟩
    rcases hM.new k (.inr hs) with e | e
    · exact hn e
    · omega
  · rcases hk with hk | hk
    · exact hM.new k (.inl hk)
    · exact hM.new k (.inr (hsf k hk))
theorem ofS_del {s i : Int} {hs : List He} (t : Int) : ofS (delH s i hs) t = delH s i (ofS hs t) := by
  unfold ofS
  exact del_filter s i _ hs
theorem ofS_del_other {s i : Int} {hs : List He} {t : Int} (h : t ≠ s) : ofS (delH s i hs) t = ofS hs t := by
  rw [ofS_del]
  refine del_none (fun x hx hc => h ?_)
  rw [← (ofS_mem.1 hx).2, hc.1]
theorem cls_del {w : World} {B : Nat} {y : Lay} {D : List Way} {σ : Option Nat} {τ : Int → Value} {hs : List He} (hT : TrieAt w B y D σ τ hs) {h : He} (hh : h ∈ hs) (q : Way) : q ∈ dropW (delH h.s h.i hs) D [] h.way ↔ q = [] ∨ ∃ x ∈ delH h.s h.i hs, q <+: x.way := by
  have hA : ∀ q ∈ D, q = [] ∨ q <+: h.way ∨ Need (delH h.s h.i hs) q := fun q hq => by
    rcases (hT.cls q).1 hq with e | ⟨x, hx, hp⟩
    · exact .inl e
    · by_cases hc : x.s = h.s ∧ x.i = h.i
      · have := hT.tr.ord.key hx hh hc.1 hc.2
        subst this
        exact .inr (.inl hp)
      · exact .inr (.inr ⟨x, del_mem.2 ⟨hx, hc⟩, hp⟩)
  have hB : ∀ q, Need (delH h.s h.i hs) q → q ∈ D := fun q ⟨x, hx, hp⟩ => (hT.cls q).2 (.inr ⟨x, (del_mem.1 hx).1, hp⟩)
  rw [dropW_iff hA hB h.way [] rfl]
  constructor
  · rintro ⟨h1, h2⟩
    by_cases e : q = []
    · exact .inl e
    · refine .inr (h2.elim (fun h3 => ?_) id)
      rcases hA q h1 with e2 | e2 | e2
      · exact absurd e2 e
      · exact absurd ⟨List.nil_prefix, e, e2⟩ h3
      · exact e2
  · rintro (rfl | h1)
    · exact ⟨hT.tr.root, .inl (fun h => h.2.1 rfl)⟩
    · exact ⟨hB q h1, .inr h1⟩
/-- What Drop leaves. -/
def Dropt (w : World) (B : Nat) (y : Lay) (D : List Way) (sb : Nat) (τ : Int → Value) (hs' : List He) (w' : World) : Prop :=
  ∃ y' D' τ', TrieAt w' B y' D' (some sb) τ' hs' ∧ TfE w w' y y' D D' (some sb) (some sb) τ τ'
theorem MidD.gone {w W : World} {B : Nat} {y : Lay} {D : List Way} {sb : Nat} {τ : Int → Value} {hs hs' : List He} {y7 : Lay} {D7 : List Way} (hM : MidD w W B y D sb τ hs hs' y7 D7) (hok : ∀ x ∈ hs', parse x.p = (0, x.way)) (hcls : ∀ q, q ∈ D7 ↔ q = [] ∨ ∃ x ∈ hs', q <+: x.way) {s : Int} (hwf : wfI s) (hoth : ∀ t, t ≠ s → ofS hs' t = ofS hs t) (hno : ∀ x ∈ hs', x.s ≠ s) :
    ∃ w8, (∀ ty, (Builtin.delete_ #[79, 3] ty #[.map (some sb), .int .i64 s]).run Tryz.prog W = .ok (.tuple #[]) w8) ∧ Dropt w B y D sb τ hs' w8 := by
  obtain ⟨Dm, hm, hsr⟩ : ∃ Dm, W.ownsMap Tryz.prog 3 raw sb (Maps.size Dm) Dm ∧ SR Dm τ hs := by
    rcases hM.ses.map with ⟨h1, _⟩ | ⟨b, Dm, h1, h2, h3⟩
    · cases h1
    · cases h1; exact ⟨Dm, h2, h3⟩
  obtain ⟨w8, hrun, hS8, hc8⟩ := hM.ses.gone (hs' := hs') rfl hm hsr hwf hoth hno 0
  obtain ⟨h1, h2⟩ := hM.end hS8 (hc8.mono (fun k _ e => .inl (by rw [e]))) (fun t k hk => by
    by_cases e : t = s
    · subst e
      rw [updI_same] at hk
      cases hk
    · rw [updI_other _ _ e] at hk
      exact hk) hok hcls
  exact ⟨w8, fun ty => hrun, _, _, _, h1, h2⟩
theorem MidD.less {w W w7 : World} {B : Nat} {y : Lay} {D : List Way} {sb : Nat} {τ : Int → Value} {hs hs' : List He} {y7 : Lay} {D7 : List Way} (hM : MidD w W B y D sb τ hs hs' y7 D7) (hok : ∀ x ∈ hs', parse x.p = (0, x.way)) (hcls : ∀ q, q ∈ D7 ↔ q = [] ∨ ∃ x ∈ hs', q <+: x.way) (hlen : hs.length ≤ 1000) {s : Int} (hwf : wfI s) (hoth : ∀ t, t ≠ s → ofS hs' t = ofS hs t) (hin : ∃ x ∈ hs', x.s = s)
    (v' : Value) (hc7 : Chg W w7 (fun k => (τ s).ownBlock = some k)) (ho7 : w7.ownsRow 0 91 1 v' (ofS hs' s).length (ptrs (ofS hs' s))) (ha7 : ∀ k, v'.ownBlock = some k → (τ s).ownBlock = some k) :
    ∃ w8, (Instr.mapUpdate 79 (.map (some sb)) (.int .i64 s) v').run Tryz.prog w7 = .ok () w8 ∧ Dropt w B y D sb τ hs' w8 ∧ w8.cell? ⟨B, 2, none⟩ = some (.map (some sb)) := by
  obtain ⟨Dm, hm, hsr⟩ : ∃ Dm, W.ownsMap Tryz.prog 3 raw sb (Maps.size Dm) Dm ∧ SR Dm τ hs := by
    rcases hM.ses.map with ⟨h1, _⟩ | ⟨b, Dm, h1, h2, h3⟩
    · cases h1
    · cases h1; exact ⟨Dm, h2, h3⟩
  obtain ⟨w8, hrun, hS8, hc8⟩ := hM.ses.put (hs' := hs') rfl hm hsr (by have := hsr.size; omega) hwf v' hc7 ho7 (fun k hk => .inl (ha7 k hk)) hoth hin
  obtain ⟨h1, h2⟩ := hM.end hS8 ((hc7.mono (fun k _ e => .inr ⟨s, e⟩)).trans (hc8.mono (fun k _ e => .inl (by rw [e])))) (fun t k hk => by
    by_cases e : t = s
    · subst e
      rw [updI_same] at hk
      exact ha7 k hk
    · rw [updI_other _ _ e] at hk
      exact hk) hok hcls
  exact ⟨w8, hrun, ⟨_, _, _, h1, h2⟩, h1.cells.2.2.1⟩
theorem TrieAt.dropCall {w : World} {B : Nat} {y : Lay} {D : List Way} {σ : Option Nat} {τ : Int → Value} {hs : List He} (hT : TrieAt w B y D σ τ hs) (hlen : hs.length ≤ 1000) {h : He} (hh : h ∈ hs) (w5 : World) (a : Option Addr) (c : Nat) (hb : Below w.heap.size w w5) (hn : NsAt w5 a c h.way) :
    Calls Tryz.prog 45 #[ndV B, .slice a h.way.length c, h.ptr] w5 fun e w' => e = .returned (.tuple #[]) ∧ ∃ y', Tr w' y' (dropW (delH h.s h.i hs) D [] h.way) (delH h.s h.i hs) ∧ TrE w5 w' y y' D (dropW (delH h.s h.i hs) D [] h.way) := by
  have h2 := (parse_len (hT.ok h hh)).1
  have := drop_any h.way w5 y D hs [] a c h (hT.tr.below hb) (hT.way_in h hh) (way_small (hT.ok h hh)) (by omega) (by omega) hn hh rfl
  rw [hT.top] at this
  exact this
set_option maxHeartbeats 16000000 in
set_option maxRecDepth 100000 in
theorem drop_no (w : World) (B : Nat) (y : Lay) (D : List Way) (σ : Option Nat) (τ : Int → Value) (hs : List He) (s i : Int) (hT : TrieAt w B y D σ τ hs) (hlen : hs.length ≤ 1000) (hwf : wfI s) (hno : hasH (ofS hs s) s i = false) :
    Calls Tryz.prog 19 #[ndV B, .int .i64 s, .int .i64 i] w fun e w' => e = .returned (.int .i64 90) ∧ Below w.heap.size w w' := by
  obtain ⟨a, c, hτ, hl⟩ := hT.ses.hl (fun x hx => hT.tr.held x hx) s
  have HOF : Hid (Calls Tryz.prog 36 #[ndV B, .int .i64 s] w fun e w' => e = .returned (.slice a (ofS hs s).length c) ∧ w' = w) := by rw [← hτ]; exact of_any w B y D σ τ hs s hT hwf
  have HFI : Hid _ := find_any a c (ofS hs s) s i w hl (by have := lenS (hs := hs) s; omega) (hT.tr.ord.filter _)
  rw [hno] at HFI
  clear hT hlen hwf hτ hl hno
  go_enter Tryz.func19, Tryz.ntmps19
  go_wp2_with (first
    | (go_at_call 36; refine Calls.mono HOF.out ?_; rintro e w1 ⟨rfl, rfl⟩)
    | (go_at_call 44; refine Calls.mono HFI.out ?_; rintro e w2 ⟨n, rfl, _, hb2⟩; (have HB2 : Hid _ := hb2); clear hb2)
    | fail)
  go_ret
  exact ⟨rfl, HB2.out⟩
theorem dropNil (w : World) (s i : Int) :
    Calls Tryz.prog 19 #[.pointer none, .int .i64 s, .int .i64 i] w fun e w' => e = .returned (.int .i64 90) ∧ Below w.heap.size w w' := by
  have HFI : Hid _ := find_any none 0 [] s i w ⟨World.ownsRow_nil _ _ _ _, fun x hx => (by cases hx)⟩ (by simp) List.Pairwise.nil
  have HFI' : Hid (Calls Tryz.prog 44 #[.slice none 0 0, tagV s i] w fun e w' => ∃ n : Nat, e = .returned (.tuple #[.int .i64 n, .bool false]) ∧ Below w.heap.size w w') := Calls.mono HFI.out (fun e w' ⟨n, h1, _, h3⟩ => ⟨n, h1, h3⟩)
  clear HFI
  go_enter Tryz.func19, Tryz.ntmps19
  go_wp2_with (first
    | (go_at_call 36; refine (of_nil w s).mono ?_; rintro e w1 ⟨rfl, rfl⟩)
    | (go_at_call 44; refine Calls.mono HFI'.out ?_; rintro e w2 ⟨n, rfl, hb2⟩; (have HB2 : Hid _ := hb2); clear hb2)
    | fail)
  go_ret
  exact ⟨rfl, HB2.out⟩
theorem one_only {hs : List He} {s : Int} (ho : Ord hs) {h : He} (hh : h ∈ hs) (hs' : h.s = s) (h1 : (ofS hs s).length = 1) : ∀ x ∈ delH h.s h.i hs, x.s ≠ s := by
  intro x hx e
  obtain ⟨hx1, hx2⟩ := del_mem.1 hx
  have m1 : x ∈ ofS hs s := ofS_mem.2 ⟨hx1, e⟩
  have m2 : h ∈ ofS hs s := ofS_mem.2 ⟨hh, hs'⟩
  obtain ⟨z, hz⟩ := List.length_eq_one_iff.1 h1
  rw [hz] at m1 m2
  have e1 : x = z := by simpa using m1
  have e2 : h = z := by simpa using m2
  exact hx2 ⟨by rw [e1, e2], by rw [e1, e2]⟩
theorem more_left {hs : List He} {s : Int} (ho : Ord hs) {h : He} (hh : h ∈ hs) (hs' : h.s = s) (h1 : (ofS hs s).length ≠ 1) : ∃ x ∈ delH h.s h.i hs, x.s = s := by
  have m2 : h ∈ ofS hs s := ofS_mem.2 ⟨hh, hs'⟩
  have h2 := del_len (ho.filter _) m2
  have h3 : 0 < (delH h.s h.i (ofS hs s)).length := by
    have : 0 < (ofS hs s).length := List.length_pos_of_mem m2
    unfold ofS at *
    omega
  obtain ⟨x, hx⟩ := List.exists_mem_of_length_pos h3
  rw [← ofS_del] at hx
  obtain ⟨h4, h5⟩ := ofS_mem.1 hx
  exact ⟨x, h4, h5⟩
set_option maxHeartbeats 32000000 in
set_option maxRecDepth 100000 in
theorem drop_ok (w : World) (B : Nat) (y : Lay) (D : List Way) (sb : Nat) (τ : Int → Value) (hs : List He) (s i : Int) (h : He) (hT : TrieAt w B y D (some sb) τ hs) (hg : Ground w) (hlen : hs.length ≤ 1000) (hwf : wfI s) (hh : h ∈ hs) (hhs : h.s = s) (hhi : h.i = i) :
    Calls Tryz.prog 19 #[ndV B, .int .i64 s, .int .i64 i] w fun e w' => e = .returned (.int .i64 0) ∧ Dropt w B y D sb τ (delH s i hs) w' := by
  subst hhs
  subst hhi
  obtain ⟨a, c, hτ, hl⟩ := hT.ses.hl (fun x hx => hT.tr.held x hx) h.s
  have hmem : h ∈ ofS hs h.s := ofS_mem.2 ⟨hh, rfl⟩
  have HOF : Hid (Calls Tryz.prog 36 #[ndV B, .int .i64 h.s] w fun e w' => e = .returned (.slice a (ofS hs h.s).length c) ∧ w' = w) := by rw [← hτ]; exact of_any w B y D _ τ hs h.s hT hwf
  have HFI : Hid (Calls Tryz.prog 44 #[.slice a (ofS hs h.s).length c, tagV h.s h.i] w fun e w' => ∃ n : Nat, e = .returned (.tuple #[.int .i64 n, .bool true]) ∧ (ofS hs h.s)[n]? = some h ∧ Below w.heap.size w w') := by
    have hy : hasH (ofS hs h.s) h.s h.i = true := hasH_iff.2 ⟨h, hmem, rfl, rfl⟩
    refine (find_any a c (ofS hs h.s) h.s h.i w hl (by have := lenS (hs := hs) h.s; omega) (hT.tr.ord.filter _)).mono ?_
    rintro e w' ⟨n, he, hst, hb⟩
    rw [hy] at he
    exact ⟨n, he, stood_at (hT.tr.ord.filter _) hmem hst, hb⟩
  have HT : Hid _ := hT
  have HG : Hid _ := hg
  have HL : Hid (Hl w a c (ofS hs h.s)) := hl
  have HTA : Hid (τ h.s = .slice a (ofS hs h.s).length c) := hτ
  have HWF : Hid _ := hwf
  have HH : Hid (h ∈ hs) := hh
  have HLN : Hid (hs.length ≤ 1000) := hlen
  have HOK : Hid (∀ x ∈ delH h.s h.i hs, parse x.p = (0, x.way)) := fun x hx => hT.ok x (del_mem.1 hx).1
  have HCL : Hid _ := fun q => cls_del hT hh q
  have HOTH : Hid (∀ t, t ≠ h.s → ofS (delH h.s h.i hs) t = ofS hs t) := fun t ht => ofS_del_other ht
  have hml : (ofS hs h.s).length ≤ 1000 := by have := lenS (hs := hs) h.s; omega
  clear hT hg hlen hwf hτ hl hmem hh
  go_enter Tryz.func19, Tryz.ntmps19
  go_upto_region 5 with (first
    | (go_at_call 36; refine Calls.mono HOF.out ?_; rintro e w1 ⟨rfl, rfl⟩)
    | (go_at_call 44; refine Calls.mono HFI.out ?_; rintro e w2 ⟨n, rfl, hn2, hb2⟩; (have HB2 : Hid (Below w1.heap.size w1 w2) := hb2); (have HN2 : Hid _ := hn2); clear hb2 hn2)
    | fail)
  obtain ⟨g, rfl, p0, hh2⟩ := (HL.out.below HB2.out).at HN2.out
  have hnl : n < (ofS hs h.s).length := (List.getElem?_eq_some_iff.1 HN2.out).1
  have hnl' : (n : Int) < ((ofS hs h.s).length : Int) := by omega
  have HH2 : Hid (HdAt w2 h) := hh2
  clear hh2
  go_upto_region 6 with fail
  clear p0
  go_region_held3 (fun w' => True) (first | go_keep | trivial)
    (first
      | (go_at_call 40; refine (names_any h w2.drew HH2.out (HG.out.below (below_drew HB2.out)) (HT.out.ok h HH.out)).mono ?_; rintro e w5 ⟨a5, c5, rfl, hn5, hb5⟩
         have HB5 : Hid (Below w1.heap.size w1 w5) := xtrans2 HB2.out (of_drew hb5)
         have HN5 : Hid _ := hn5
         clear hn5 hb5)
      | (go_at_call 45; refine (HT.out.dropCall HLN.out HH.out w5 a5 c5 HB5.out HN5.out).mono ?_; rintro e w6 ⟨rfl, y6, hT6, hE6⟩
         have HM : Hid _ := midD HT.out HB5.out hT6 hE6 (dropW_keep HT.out.tr.root (Nat.le_refl _))
         clear hT6 hE6))
  have c2 : w6.cell? ⟨B, 2, none⟩ = some (.map (some sb)) := by
    have := (HM.out.tr.nd [] HM.out.tr.root).cells.2.2.1 rfl
    rw [HM.out.top, HM.out.sig] at this
    exact this
  by_cases h1 : (ofS hs h.s).length = 1
  · have h1' : ((ofS hs h.s).length : Int) = 1 := by omega
    obtain ⟨w8, hdel, hD8⟩ := HM.out.gone HOK.out HCL.out HWF.out HOTH.out (one_only HT.out.tr.ord HH.out rfl h1)
    have HD8 : Hid _ := hD8
    clear hD8
    go_wp2_with fail
    go_ret
    exact ⟨rfl, HD8.out⟩
  · have h1' : ¬ (((ofS hs h.s).length : Int) = 1) := by omega
    go_upto_region 9 with fail
    go_region_held3 (fun w' => w'.cell? ⟨B, 2, none⟩ = some (.map (some sb))) (first | go_keep | exact c2 | exact c9)
      (first
        | (go_at_call 46
           obtain ⟨a8, c8, hτ8, hl8⟩ := HM.out.ses.hl HM.out.held h.s
           rw [HTA.out] at hτ8
           have hτ9 : a8 = some ⟨g, 0, none⟩ ∧ c8 = c := by
             simp only [Value.slice.injEq] at hτ8
             exact ⟨hτ8.1.symm, hτ8.2.2.symm⟩
           obtain ⟨rfl, rfl⟩ := hτ9
           refine (without_any _ _ (ofS hs h.s) h w6.drew (hl8.below (below_drew (Below.refl _ _))) (ofS_mem.2 ⟨HH.out, rfl⟩) (by omega) (HT.out.tr.ord.filter _)).mono ?_
           rintro e w8 ⟨v', rfl, ho8, hc8, ha8⟩
           obtain ⟨av, cv, hv⟩ := owns_shape ho8
           have hbn : ¬ (Value.slice (some ⟨g, 0, none⟩) (ofS hs h.s).length c8).ownBlock = some B := fun e => Go.Proofs.YtbblckcjedjbcaaGreatDoor.apart HM.out.tr HM.out.ses HM.out.rho HM.out.mu (.inr ⟨h.s, by rw [HTA.out]; exact e⟩) (.inl (.inl ⟨[], HM.out.tr.root, HM.out.top⟩))
           have hBl : B < w6.heap.size := by
             obtain ⟨c, t, hx, _⟩ := HM.out.tr.kβ HM.out.tr.root
             rw [HM.out.top] at hx
             exact lt_of_blk hx
           have c2' : w8.cell? ⟨B, 2, none⟩ = some (.map (some sb)) := by
             rw [World.cell?_of_block (w := w6) (hc8.block B hBl hbn)]
             exact c2
           clear c2
           have c2 := c2'
           obtain ⟨w9, hup, hA9, c9⟩ := HM.out.less HOK.out HCL.out HLN.out HWF.out HOTH.out (more_left HT.out.tr.ord HH.out rfl h1) v' (w7 := w8) (by rw [HTA.out]; exact ⟨hc8.os, hc8.tape, hc8.output, hc8.size, hc8.block⟩) (by rw [ofS_del]; exact ho8) (by rw [HTA.out]; exact ha8)
           have HA9 : Hid _ := hA9
           subst hv
           clear ho8 hc8 ha8 hA9 hl8 hτ8 hbn hBl c2'))
    go_wp2_with fail
    go_ret
    exact ⟨rfl, HA9.out⟩
end Go.Proofs.YtbblckcjedjbcaaGreatDoor
