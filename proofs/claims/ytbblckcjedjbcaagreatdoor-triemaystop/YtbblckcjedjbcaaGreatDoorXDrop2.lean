/-
  trie: drop, by its walk.
-/
import Derived.Test.YtbblckcjedjbcaaGreatDoorXDrop
namespace Go.Proofs.YtbblckcjedjbcaaGreatDoor
open Go.RowKit Go.Maps
set_option linter.unusedVariables false
set_option linter.unusedSimpArgs false

theorem KidsAt.len {w : World} {m : Option Nat} {p : Way} {D : List Way} {β : Way → Nat} (h : KidsAt w m p D β) (hd : D.Nodup) (ty : TypeId) : (Builtin.len_ #[74] ty #[.map m]).run Tryz.prog w = .ok (.int .i64 ((kidsOf D p).length : Nat)) w := by
  rcases h with ⟨rfl, h2⟩ | ⟨b, Dm, rfl, h2, h3⟩
  · have : kidsOf D p = [] := by
      rw [List.eq_nil_iff_forall_not_mem]
      intro n hn
      exact h2 n (kids_mem.1 hn)
    rw [this]
    exact Maps.len_nil Tryz.underlying74 ty
  · rw [← h3.size hd]
    exact h2.len Tryz.underlying74 ty
set_option maxHeartbeats 6400000 in
theorem bare_any (w : World) (y : Lay) (D : List Way) (hs : List He) (p : Way) (hT : Tr w y D hs) (hp : p ∈ D) :
    Calls Tryz.prog 72 #[ndV (y.β p)] w fun e w' => e = .returned (.bool (bareB D hs p)) ∧ w' = w := by
  obtain ⟨c0, c1, _, fz⟩ := (hT.nd p hp).cells
  obtain ⟨a, c, hρ, _⟩ := hT.hlp hp
  rw [hρ] at c1
  have hlen := fun ty => (hT.kids p hp).len hT.dn ty
  unfold bareB
  obtain ⟨A, hA⟩ : ∃ A, here hs p = A := ⟨_, rfl⟩
  obtain ⟨K, hK⟩ : ∃ K, kidsOf D p = K := ⟨_, rfl⟩
  rw [hA] at c1 ⊢
  rw [hK] at hlen ⊢
  clear hT hp hρ hA hK fz
  cases A with
  | nil =>
    cases K with
    | nil =>
      simp only [List.length_nil] at c1 hlen
      go_enter Tryz.func72, Tryz.ntmps72
      go_wp2_with fail
      go_ret
      exact ⟨rfl, rfl⟩
    | cons n r =>
      simp only [List.length_nil, List.length_cons] at c1 hlen
      have h1 : ¬ ((r.length : Int) + 1 = 0) := by omega
      go_enter Tryz.func72, Tryz.ntmps72
      go_wp2_with fail
      go_ret
      exact ⟨rfl, rfl⟩
  | cons x r =>
    simp only [List.length_cons] at c1
    have h1 : ¬ ((r.length : Int) + 1 = 0) := by omega
    go_enter Tryz.func72, Tryz.ntmps72
    go_wp2_with fail
    go_ret
    exact ⟨rfl, rfl⟩
set_option maxHeartbeats 6400000 in
theorem drop_end (w : World) (y : Lay) (D : List Way) (hs : List He) (p : Way) (a : Option Addr) (h : He) (hT : Tr w y D hs) (hp : p ∈ D) (hl : hs.length ≤ 100000) (hh : h ∈ hs) (hw : h.way = p) :
    Calls Tryz.prog 45 #[ndV (y.β p), .slice a 0 0, h.ptr] w fun e w' => e = .returned (.tuple #[]) ∧ ∃ y', Tr w' y' D (delH h.s h.i hs) ∧ TrE w w' y y' D D := by
  obtain ⟨a', c', hρ, hHl⟩ := hT.hl hp
  have hlen : (here hs p).length ≤ 100000 := Nat.le_trans (List.length_filter_le _ _) hl
  have HWI : Hid _ := without_any a' c' (here hs p) h w hHl (here_mem.2 ⟨hh, hw⟩) hlen (hT.ord.filter _)
  have HT : Hid _ := hT
  have HP : Hid (p ∈ D) := hp
  have HRO : Hid (y.ρ p = .slice a' (here hs p).length c') := hρ
  have HHD : Hid (h ∈ hs) := hh
  have HW : Hid (h.way = p) := hw
  obtain ⟨c0, c1, _, fz⟩ := (hT.nd p hp).cells
  rw [hρ] at c1
  clear hT hp hl hh hw hρ hHl hlen
  go_enter Tryz.func45, Tryz.ntmps45
  go_wp2_with fail
  refine Calls.mono HWI.out ?_
  rintro e w1 ⟨v', rfl, ho1, hc1, ha1⟩
  obtain ⟨a3, c3, hv3⟩ := owns_shape ho1
  have hT1 : Tr (w1.setCell ⟨y.β p, 1, none⟩ v') { y with ρ := upd y.ρ p v' } D (delH h.s h.i hs) := by
    refine HT.out.setRow HP.out v' ?_ ?_ ?_ (fun q hq => ?_) (del_ord HT.out.ord) (fun x hx => HT.out.held x (del_mem.1 hx).1)
    · rw [HRO.out]; exact hc1
    · rw [here_del]; exact ho1
    · rw [HRO.out]; exact fun k hk => .inl (ha1 k hk)
    · rw [here_del]
      refine del_none (fun x hx hc => hq ?_)
      obtain ⟨h1, h2⟩ := here_mem.1 hx
      have := HT.out.ord.key h1 HHD.out hc.1 hc.2
      rw [← h2, this, HW.out]
  have hTE : TrE w (w1.setCell ⟨y.β p, 1, none⟩ v') y { y with ρ := upd y.ρ p v' } D D := by
    refine ⟨rfl, fun _ _ _ => rfl, ?_, fun k hk => ?_⟩
    · refine Chg.trans (hc1.mono (fun k _ e => .inr (.inr ⟨p, HP.out, by rw [HRO.out]; exact e⟩))) ((Chg.set w1 ⟨y.β p, 1, none⟩ v').mono (fun k _ e => .inl ⟨p, HP.out, e.symm⟩))
    · rcases hk with ⟨q, hq, e⟩ | ⟨q, hq, e⟩ | ⟨q, hq, e⟩
      · exact .inl (.inl ⟨q, hq, e⟩)
      · exact .inl (.inr (.inl ⟨q, hq, e⟩))
      · have e' : (upd y.ρ p v' q).ownBlock = some k := e
        by_cases e2 : q = p
        · subst e2
          rw [upd_same] at e'
          exact .inl (.inr (.inr ⟨q, hq, by rw [HRO.out]; exact ha1 k e'⟩))
        · rw [upd_other _ _ e2] at e'
          exact .inl (.inr (.inr ⟨q, hq, e'⟩))
  have HT1 : Hid _ := hT1
  have HTE : Hid _ := hTE
  have hb1 : w1.heap[y.β p]? = w.heap[y.β p]? := hc1.block _ (by obtain ⟨c, t, hb, _⟩ := HT.out.kβ HP.out; exact lt_of_blk hb) (fun e => HT.out.βρ HP.out HP.out (by rw [HRO.out]; exact e) rfl)
  have d1 : w1.cell? ⟨y.β p, 1, none⟩ = some (.slice a' (here hs p).length c') := by rw [World.cell?_of_block (w := w) hb1]; exact c1
  have gz : ∀ o, w1.frozen? ⟨y.β p, o, none⟩ = false := fun o => by rw [World.frozen?_of_block (w := w) hb1]; exact fz o
  clear hT1 hTE ho1 hc1 ha1 hb1 c0 c1 fz
  subst hv3
  go_wp2_with fail
  exact bodyPost_ret (results_none rfl _ _ _) rfl ⟨rfl, _, HT1.out, HTE.out⟩
theorem TrE.sub {w w' : World} {y : Lay} {D D' : List Way} (hD : ∀ q ∈ D', q ∈ D) (hc : Chg w w' (Wt y D)) : TrE w w' y y D D' :=
  ⟨rfl, fun _ _ _ => rfl, hc, fun k hk => .inl (by
    rcases hk with ⟨q, hq, e⟩ | ⟨q, hq, e⟩ | ⟨q, hq, e⟩
    · exact .inl ⟨q, hD q hq, e⟩
    · exact .inr (.inl ⟨q, hD q hq, e⟩)
    · exact .inr (.inr ⟨q, hD q hq, e⟩))⟩
set_option maxHeartbeats 16000000 in
set_option maxRecDepth 100000 in
theorem drop_any : ∀ (ns : List ByteArray) (w : World) (y : Lay) (D : List Way) (hs : List He) (p : Way) (a : Option Addr) (c : Nat) (h : He), Tr w y D hs → p ++ ns ∈ D → (∀ n ∈ ns, n.size ≤ 1000) → ns.length ≤ 1000 → hs.length ≤ 100000 → NsAt w a c ns → h ∈ hs → h.way = p ++ ns →
    Calls Tryz.prog 45 #[ndV (y.β p), .slice a ns.length c, h.ptr] w fun e w' => e = .returned (.tuple #[]) ∧ ∃ y', Tr w' y' (dropW (delH h.s h.i hs) D p ns) (delH h.s h.i hs) ∧ TrE w w' y y' D (dropW (delH h.s h.i hs) D p ns)
  | [], w, y, D, hs, p, a, c, h, hT, hp, hns, hnl, hl, hN, hh, hw => by
    have hc : c = 0 := hN.1
    subst hc
    rw [List.append_nil] at hp hw
    exact drop_end w y D hs p a h hT hp hl hh hw
  | n :: r, w, y, D, hs, p, a, c, h, hT, hp, hns, hnl, hl, hN, hh, hw => by
    obtain ⟨hc, b, o, cur9, ha, hb9, hcell⟩ := hN.head
    have hr : r.length ≤ 1000 := by rw [List.length_cons] at hnl; omega
    have hpn : p ++ [n] ∈ D := pre_in hT.up r.length r (p ++ [n]) rfl (by rw [List.append_assoc]; exact hp)
    have hpD : p ∈ D := hT.up p n hpn
    have hnn := hns n List.mem_cons_self
    subst ha
    subst hc
    obtain ⟨A', hA'⟩ : ∃ A', (if r.length = 0 then (some ⟨b, o, none⟩ : Option Addr) else (some (⟨b, o, none⟩ : Addr)).map (·.add 1)) = A' := ⟨_, rfl⟩
    have HSL : Hid (∀ w, (Instr.slice 87 (.slice (some ⟨b, o, none⟩) (r.length + 1) (r.length + 1)) (some (.int .i64 1)) none none).run Tryz.prog w = .ok (.slice A' r.length r.length) w) := fun w => by rw [← hA']; exact slice_tail _ r.length w (by omega)
    have HLK : Hid (∀ m : Nat, (Instr.lookup 74 (.map (y.μ p)) (.string n) false).run Tryz.prog (w.drewN m) = .ok (ndV (y.β (p ++ [n]))) (w.drewN m)) := fun m => by
      have := ((hT.below (below_drewN (Below.refl _ _) m)).kids p hpD).get hnn
      unfold kidV at this
      rw [if_pos (inD_iff.2 hpn)] at this
      exact this
    obtain ⟨hs', hhs⟩ : ∃ hs', delH h.s h.i hs = hs' := ⟨_, rfl⟩
    obtain ⟨D1, hD1⟩ : ∃ D1, dropW hs' D (p ++ [n]) r = D1 := ⟨_, rfl⟩
    have hin1 : p ++ [n] ∈ D1 := by rw [← hD1]; exact dropW_keep hpn (Nat.le_refl _)
    have hp1 : p ∈ D1 := by rw [← hD1]; exact dropW_keep hpD (by rw [List.length_append]; omega)
    have hsub1 : ∀ q ∈ D1, q ∈ D := fun q hq => by rw [← hD1] at hq; exact dropW_sub hq
    have HREC : Hid (∀ m : Nat, Calls Tryz.prog 45 #[ndV (y.β (p ++ [n])), .slice A' r.length r.length, h.ptr] (w.drewN m) fun e w' => e = .returned (.tuple #[]) ∧ ∃ y', Tr w' y' D1 hs' ∧ TrE w w' y y' D D1) := fun m => by
      have hb0 : Below w.heap.size w (w.drewN m) := below_drewN (Below.refl _ _) m
      have htl := (hN.tail).below hb0
      rw [hA'] at htl
      refine (drop_any r (w.drewN m) y D hs (p ++ [n]) A' r.length h (hT.below hb0) (by rw [List.append_assoc]; exact hp) (fun k hk => hns k (List.mem_cons_of_mem _ hk)) hr hl htl hh (by rw [hw, List.append_assoc]; rfl)).mono ?_
      rintro e w' ⟨he, y', hT', hE'⟩
      rw [hhs, hD1] at hT' hE'
      exact ⟨he, y', hT', hE'.sig, hE'.beta, ⟨hE'.chg.os, hE'.chg.tape, hE'.chg.output, hE'.chg.size, hE'.chg.block⟩, hE'.new⟩
    have HSTAY : Hid (∀ (w1 : World) (y1 : Lay) (D2 : List Way), TrE w w1 y y1 D D2 → w1.cell? ⟨b, o, none⟩ = some (.string n)) := fun w1 y1 D2 h => by
      rw [World.cell?_of_block (w := w) (h.chg.block b (lt_of_blk hb9) (hT.w9 hb9))]
      exact hcell
    have hres : dropW hs' D p (n :: r) = if bareB D1 hs' (p ++ [n]) then D1.filter (fun q => !decide (q = p ++ [n])) else D1 := by
      rw [← hD1]
      rfl
    have HRES : Hid _ := hres
    rw [hhs]
    obtain ⟨c0, c1, _, fz⟩ := (hT.nd p hpD).cells
    have HP1 : Hid (p ∈ D1) := hp1
    have HIN1 : Hid (p ++ [n] ∈ D1) := hin1
    have HSUB1 : Hid (∀ q ∈ D1, q ∈ D) := hsub1
    have HNN : Hid (n.size ≤ 1000) := hnn
    have HPD : Hid (p ∈ D) := hpD
    have HPN : Hid (p ++ [n] ∈ D) := hpn
    have hn0 : ¬ ((r.length : Int) + 1 = 0) := by omega
    have hn1 : (0 : Int) < (r.length : Int) + 1 := by omega
    have hlk := HLK.out
    clear hT hp hns hnl hl hN hh hw hA' hhs hD1 hin1 hp1 hsub1 hres hnn hpD hpn hb9
    obtain ⟨M, hM⟩ : ∃ M, r.length = M := ⟨_, rfl⟩
    rw [List.length_cons]
    rw [hM] at HSL HREC hn0 hn1 hr ⊢
    clear hM
    go_enter Tryz.func45, Tryz.ntmps45
    go_upto_region 2 with fail
    go_quiet (fail)
    have hsl := HSL.out
    go_upto_region 4 with (first
      | (go_at_call 45; refine Calls.mono (HREC.out _) ?_; rintro e w1 ⟨rfl, y1, hT1, hE1⟩
         have HT1 : Hid (Tr w1 y1 D1 hs') := hT1
         have HE1 : Hid (TrE w w1 y y1 D D1) := hE1
         clear hT1 hE1 hcell hlk c0 c1 fz)
      | fail)
    have hβ1 : y1.β (p ++ [n]) = y.β (p ++ [n]) := HE1.out.beta _ HPN.out HIN1.out
    have hβp : y1.β p = y.β p := HE1.out.beta _ HPD.out HP1.out
    have HBA : Hid _ := bare_any w1 y1 D1 hs' (p ++ [n]) HT1.out HIN1.out
    rw [hβ1] at HBA
    have hcell := HSTAY.out _ _ _ HE1.out
    obtain ⟨c0, _, _, _⟩ := (HT1.out.nd p HP1.out).cells
    rw [hβp] at c0
    cases hba : bareB D1 hs' (p ++ [n]) with
    | false =>
      rw [hba] at HBA HRES
      clear hβ1 hβp
      go_wp2_with (first | (go_at_call 72; refine Calls.mono HBA.out ?_; rintro e w2 ⟨rfl, rfl⟩) | fail)
      go_end0
      refine ⟨rfl, y1, ?_⟩
      rw [show dropW hs' D p (n :: r) = D1 from HRES.out]
      exact ⟨HT1.out, HE1.out⟩
    | true =>
      rw [hba] at HBA HRES
      have HRES' : Hid (dropW hs' D p (n :: r) = D1.filter (fun q => !decide (q = p ++ [n]))) := HRES.out
      obtain ⟨hbe, hbk⟩ := bareB_iff.1 hba
      obtain ⟨mb, Dm, hmb, hmp, hkr⟩ : ∃ mb Dm, y1.μ p = some mb ∧ MapAt w1 mb (Maps.size Dm) Dm ∧ KR Dm p D1 y1.β := by
        rcases HT1.out.kids p HP1.out with ⟨_, h2⟩ | ⟨mb, Dm, h1, h2, h3⟩
        · exact absurd HIN1.out (h2 n)
        · exact ⟨mb, Dm, h1, h2, h3⟩
      rw [hmb] at c0
      obtain ⟨w3, hdel, hm3, hc3⟩ := kids_del (w := w1.drew) (map_below hmp (below_drew (Below.refl _ _))) HNN.out 0
      have hdel' : ∀ ty, (Builtin.delete_ #[74, 9] ty #[.map (some mb), .string n]).run Tryz.prog w1.drew = .ok (.tuple #[]) w3 := fun ty => hdel
      have hc3' : Chg w1 w3 (fun k => k = mb) := ⟨hc3.os, hc3.tape, hc3.output, hc3.size, hc3.block⟩
      have HT3 : Hid (Tr w3 y1 (D1.filter (fun q => !decide (q = p ++ [n]))) hs') := HT1.out.dropKid HP1.out HIN1.out hbk hmb hkr hc3' hm3
      have HE3 : Hid (TrE w w3 y y1 D (D1.filter (fun q => !decide (q = p ++ [n])))) := HE1.out.trans (TrE.sub (fun q hq => (List.mem_filter.1 hq).1) (hc3'.mono (fun k _ e => .inr (.inl ⟨p, HP1.out, by rw [e]; exact hmb⟩)))) (fun q hq hq2 => (List.mem_filter.1 hq2).1)
      clear hβ1 hβp hm3 hc3 hc3' hmp hkr hmb hdel hbe hbk
      go_upto_region 5 with (first | (go_at_call 72; refine Calls.mono HBA.out ?_; rintro e w2 ⟨rfl, rfl⟩) | fail)
      go_region
      go_wp2_with fail
      go_end0
      refine ⟨rfl, y1, ?_⟩
      rw [HRES'.out]
      exact ⟨HT3.out, HE3.out⟩
end Go.Proofs.YtbblckcjedjbcaaGreatDoor
