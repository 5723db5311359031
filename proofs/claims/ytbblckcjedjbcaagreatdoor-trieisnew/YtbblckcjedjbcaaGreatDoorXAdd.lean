/-
  trie: add.
-/
import Derived.Test.YtbblckcjedjbcaaGreatDoorXKid2
namespace Go.Proofs.YtbblckcjedjbcaaGreatDoor
open Go.RowKit Go.Maps
set_option linter.unusedVariables false
set_option linter.unusedSimpArgs false

/-- Names in memory, from some cell on. -/
def NsAt (w : World) (a : Option Addr) (c : Nat) (ns : List ByteArray) : Prop :=
  c = ns.length ∧ (ns = [] ∨ ∃ b o cur, a = some ⟨b, o, none⟩ ∧ w.heap[b]? = some (.cells cur 9 (0, 0)) ∧ ∀ (j : Nat) (x : ByteArray), ns[j]? = some x → cur[o + j]? = some (.string x))
theorem NsAt.of {w : World} {B : Nat} {a : Option Addr} {c : Nat} {ns : List ByteArray} (h : Own B w a c ns) : NsAt w a c ns := by
  rcases h with ⟨rfl, _, rfl⟩ | ⟨_, b, rfl, rfl, _, hb⟩
  · exact ⟨rfl, .inl rfl⟩
  · exact ⟨rfl, .inr ⟨b, 0, _, rfl, hb, fun j x hx => by rw [Nat.zero_add, List.getElem?_toArray, List.getElem?_map, hx]; rfl⟩⟩
theorem NsAt.chg {w w' : World} {a : Option Addr} {c : Nat} {ns : List ByteArray} {S : Nat → Prop} (h : NsAt w a c ns) (hc : Chg w w' S) (hS : ∀ b cur, w.heap[b]? = some (.cells cur 9 (0, 0)) → ¬ S b) : NsAt w' a c ns := by
  obtain ⟨h1, h2⟩ := h
  refine ⟨h1, ?_⟩
  rcases h2 with h2 | ⟨b, o, cur, e, hb, hx⟩
  · exact .inl h2
  · exact .inr ⟨b, o, cur, e, by rw [hc.block b (lt_of_blk hb) (hS b cur hb)]; exact hb, hx⟩
theorem NsAt.below {w w' : World} {a : Option Addr} {c : Nat} {ns : List ByteArray} (h : NsAt w a c ns) (hb : Below w.heap.size w w') : NsAt w' a c ns := h.chg (Chg.of_below hb (fun _ => False)) (fun _ _ _ => id)
theorem NsAt.head {w : World} {a : Option Addr} {c : Nat} {n : ByteArray} {r : List ByteArray} (h : NsAt w a c (n :: r)) : c = r.length + 1 ∧ ∃ b o cur, a = some ⟨b, o, none⟩ ∧ w.heap[b]? = some (.cells cur 9 (0, 0)) ∧ w.cell? ⟨b, o, none⟩ = some (.string n) := by
  obtain ⟨h1, h2⟩ := h
  refine ⟨h1, ?_⟩
  rcases h2 with h2 | ⟨b, o, cur, e, hb, hx⟩
  · cases h2
  · refine ⟨b, o, cur, e, hb, ?_⟩
    have := hx 0 n rfl
    simp [World.cell?, hb]
    simpa using this
theorem size9 (w : World) : (Go.sizeOf 9).run Tryz.prog w = .ok 1 w := by kernel_rfl
theorem slice_tail (A : Option Addr) (m : Nat) (w : World) (hm : m ≤ 100000) : (Instr.slice 87 (.slice A (m + 1) (m + 1)) (some (.int .i64 1)) none none).run Tryz.prog w = .ok (.slice (if m = 0 then A else A.map (·.add 1)) m m) w := by
  have h1 : (1 : Int) ≤ (m : Int) + 1 := by omega
  have h2 : (0 : Int) ≤ 1 := by omega
  simp [Instr.slice, Instr.sliceBounds, Instr.sliceBound, run_underlying Tryz.underlying87, size9, asIntOf, h1]
theorem NsAt.tail {w : World} {a : Option Addr} {c : Nat} {n : ByteArray} {r : List ByteArray} (h : NsAt w a c (n :: r)) : NsAt w (if r.length = 0 then a else a.map (·.add 1)) r.length r := by
  obtain ⟨h1, h2⟩ := h
  refine ⟨rfl, ?_⟩
  rcases h2 with h2 | ⟨b, o, cur, rfl, hb, hx⟩
  · cases h2
  · cases r with
    | nil => exact .inl rfl
    | cons m r => exact .inr ⟨b, o + 1, cur, by simp [addr_add], hb, fun j x hj => by have := hx (j + 1) x (by simpa using hj); rw [show o + 1 + j = o + (j + 1) by omega]; exact this⟩
/-- A row of texts is none of the tree's. -/
theorem Tr.w9 {w : World} {y : Lay} {D : List Way} {hs : List He} (h : Tr w y D hs) {b : Nat} {cur : Array Value} (hb : w.heap[b]? = some (.cells cur 9 (0, 0))) : ¬ Wt y D b := by
  rintro (⟨p, hp, rfl⟩ | ⟨p, hp, hk⟩ | ⟨p, hp, hk⟩)
  · obtain ⟨c1, t, h1, ht⟩ := h.kβ hp
    rw [h1] at hb
    simp only [Option.some.injEq, Obj.cells.injEq] at hb
    rcases ht with rfl | rfl
    · exact absurd hb.2.1 (by decide)
    · exact absurd hb.2.1 (by decide)
  · obtain ⟨es, c, h1⟩ := h.kμ hp hk
    rw [h1] at hb
    cases hb
  · obtain ⟨c1, h1⟩ := h.kρ hp hk
    rw [h1] at hb
    simp only [Option.some.injEq, Obj.cells.injEq] at hb
    exact absurd hb.2.1 (by decide)
/-- A held watch is none of what may be written. -/
theorem Tr.wh {w : World} {y : Lay} {D : List Way} {hs : List He} (h : Tr w y D hs) {x : He} (hx : HdAt w x) : ¬ Wt y D x.b := by
  rintro (⟨p, hp, e⟩ | ⟨p, hp, hk⟩ | ⟨p, hp, hk⟩)
  · exact h.hβ hp hx e.symm
  · exact h.hμ hp hx hk rfl
  · exact h.hρ hp hx hk rfl
def addW (D : List Way) (p : Way) : List ByteArray → List Way
  | [] => D
  | n :: r => addW (addD D (p ++ [n])) (p ++ [n]) r
theorem addD_mem {D : List Way} {q r : Way} : r ∈ addD D q ↔ r ∈ D ∨ r = q := by
  by_cases h : q ∈ D
  · rw [addD_in h]
    constructor
    · exact .inl
    · rintro (h1 | rfl)
      · exact h1
      · exact h
  · rw [addD_out h]
    simp
theorem addD_len (D : List Way) (q : Way) : (addD D q).length ≤ D.length + 1 := by
  unfold addD
  split <;> simp
theorem addW_mem {D : List Way} {p : Way} {ns : List ByteArray} {q : Way} (h : q ∈ D) : q ∈ addW D p ns := by
  induction ns generalizing D p with
  | nil => exact h
  | cons n r ih => exact ih (addD_mem.2 (.inl h))
theorem addW_end {D : List Way} {p : Way} {ns : List ByteArray} (h : p ∈ D) : p ++ ns ∈ addW D p ns := by
  induction ns generalizing D p with
  | nil => rw [List.append_nil]; exact h
  | cons n r ih =>
    have := ih (D := addD D (p ++ [n])) (p := p ++ [n]) (addD_mem.2 (.inr rfl))
    rw [List.append_assoc] at this
    exact this
theorem here_ins {h : He} {hs : List He} (ho : Ord hs) (q : Way) : here (insH h hs) q = if h.way = q then insH h (here hs q) else here hs q := by
  unfold here
  rw [ins_filter _ _ ho]
  by_cases e : h.way = q
  · simp [e]
  · simp [e]
theorem owns_shape {w : World} {B e s n : Nat} {v : Value} {xs : List Value} (h : w.ownsRow B e s v n xs) : ∃ a c, v = .slice a n c := by
  rcases h.2 with ⟨rfl, rfl⟩ | ⟨g, cap, cur, hv, _⟩
  · exact ⟨none, 0, rfl⟩
  · exact ⟨_, cap, hv⟩
set_option maxHeartbeats 6400000 in
theorem add_end (w : World) (y : Lay) (D : List Way) (hs : List He) (p : Way) (a : Option Addr) (h : He) (hT : Tr w y D hs) (hp : p ∈ D) (hl : hs.length ≤ 100000) (hh : HdAt w h) (hw : h.way = p) (hn : ∀ x ∈ hs, ¬ (x.s = h.s ∧ x.i = h.i)) :
    Calls Tryz.prog 39 #[ndV (y.β p), .slice a 0 0, h.ptr] w fun e w' => e = .returned (.tuple #[]) ∧ ∃ y', Tr w' y' D (insH h hs) ∧ TrE w w' y y' D D := by
  obtain ⟨a', c', hρ, hHl⟩ := hT.hl hp
  have hlen : (here hs p).length ≤ 100000 := Nat.le_trans (List.length_filter_le _ _) hl
  have HWI : Hid _ := with_any a' c' (here hs p) h w hHl hh hlen (hT.ord.filter _)
  have HT : Hid _ := hT
  have HP : Hid (p ∈ D) := hp
  have HRO : Hid (y.ρ p = .slice a' (here hs p).length c') := hρ
  have HHD : Hid (HdAt w h) := hh
  have HW : Hid (h.way = p) := hw
  have HN : Hid _ := hn
  obtain ⟨c0, c1, _, fz⟩ := (hT.nd p hp).cells
  rw [hρ] at c1
  clear hT hp hl hh hw hn hρ hHl hlen
  go_enter Tryz.func39, Tryz.ntmps39
  go_wp2_with fail
  refine Calls.mono HWI.out ?_
  rintro e w1 ⟨v', rfl, ho1, hc1, ha1⟩
  obtain ⟨a3, c3, hv3⟩ := owns_shape ho1
  have hT1 : Tr (w1.setCell ⟨y.β p, 1, none⟩ v') { y with ρ := upd y.ρ p v' } D (insH h hs) := by
    refine HT.out.setRow HP.out v' ?_ ?_ ?_ (fun q hq => ?_) (ins_ord HT.out.ord HN.out) (fun x hx => ?_)
    · rw [HRO.out]; exact hc1
    · rw [here_ins HT.out.ord, if_pos HW.out]; exact ho1
    · rw [HRO.out]; exact ha1
    · rw [here_ins HT.out.ord, if_neg (fun e => hq (by rw [← e]; exact HW.out))]
    · rcases ins_mem.1 hx with rfl | hx
      · exact HHD.out
      · exact HT.out.held x hx
  have hTE : TrE w (w1.setCell ⟨y.β p, 1, none⟩ v') y { y with ρ := upd y.ρ p v' } D D := by
    refine ⟨rfl, fun _ _ _ => rfl, ?_, fun k hk => ?_⟩
    · refine Chg.trans (hc1.mono (fun k _ e => .inr (.inr ⟨p, HP.out, by rw [HRO.out]; exact e⟩))) ((Chg.set w1 ⟨y.β p, 1, none⟩ v').mono (fun k _ e => .inl ⟨p, HP.out, e.symm⟩))
    · rcases hk with ⟨q, hq, e⟩ | ⟨q, hq, e⟩ | ⟨q, hq, e⟩
      · exact .inl (.inl ⟨q, hq, e⟩)
      · exact .inl (.inr (.inl ⟨q, hq, e⟩))
      · have e' : (upd y.ρ p v' q).ownBlock = some k := e
        by_cases e2 : q = p
        · subst e2
          rw [upd_same] at e'
          exact (ha1 k e').imp (fun e3 => .inr (.inr ⟨q, hq, by rw [HRO.out]; exact e3⟩)) id
        · rw [upd_other _ _ e2] at e'
          exact .inl (.inr (.inr ⟨q, hq, e'⟩))
  have HT1 : Hid _ := hT1
  have HTE : Hid _ := hTE
  have hb1 : w1.heap[y.β p]? = w.heap[y.β p]? := hc1.block _ (by obtain ⟨c, t, hb, _⟩ := HT.out.kβ HP.out; exact lt_of_blk hb) (fun e => HT.out.βρ HP.out HP.out (by rw [HRO.out]; exact e) rfl)
  have d1 : w1.cell? ⟨y.β p, 1, none⟩ = some (.slice a' (here hs p).length c') := by rw [World.cell?_of_block (w := w) hb1]; exact c1
  have gz : ∀ o, w1.frozen? ⟨y.β p, o, none⟩ = false := fun o => by rw [World.frozen?_of_block (w := w) hb1]; exact fz o
  clear hT1 hTE ho1 hc1 ha1 hb1 c0 c1 fz
  subst hv3
  go_wp2_with fail
  exact bodyPost_ret (results_none rfl _ _ _) rfl ⟨rfl, _, HT1.out, HTE.out⟩
set_option maxHeartbeats 6400000 in
set_option maxRecDepth 100000 in
theorem add_any : ∀ (ns : List ByteArray) (w : World) (y : Lay) (D : List Way) (hs : List He) (p : Way) (a : Option Addr) (c : Nat) (h : He), Tr w y D hs → p ∈ D → (∀ n ∈ ns, n.size ≤ 1000) → (∀ x ∈ hs, x.way ∈ D) → D.length + ns.length ≤ 100000 → hs.length ≤ 100000 → NsAt w a c ns → HdAt w h → h.way = p ++ ns → (∀ x ∈ hs, ¬ (x.s = h.s ∧ x.i = h.i)) →
    Calls Tryz.prog 39 #[ndV (y.β p), .slice a ns.length c, h.ptr] w fun e w' => e = .returned (.tuple #[]) ∧ ∃ y', Tr w' y' (addW D p ns) (insH h hs) ∧ TrE w w' y y' D (addW D p ns)
  | [], w, y, D, hs, p, a, c, h, hT, hp, hns, hway, hD, hl, hN, hh, hw, hn => by
    have hc : c = 0 := hN.1
    subst hc
    exact add_end w y D hs p a h hT hp hl hh (by rw [hw, List.append_nil]) hn
  | n :: r, w, y, D, hs, p, a, c, h, hT, hp, hns, hway, hD, hl, hN, hh, hw, hn => by
    obtain ⟨hc, b, o, cur9, ha, hb9, hcell⟩ := hN.head
    have hr : r.length ≤ 100000 := by simp at hD; omega
    have HSL : Hid (∀ w, _) := fun w => slice_tail a r.length w hr
    have HK : Hid _ := fun m : Nat => kid_any (w.drewN m) y D hs p n (hT.below ⟨rfl, rfl, rfl, Nat.le_refl _, fun _ _ => rfl⟩) hp (hns n List.mem_cons_self) hway (by omega)
    have HT : Hid _ := hT
    have HN : Hid (NsAt w (if r.length = 0 then a else a.map (·.add 1)) r.length r) := hN.tail
    have HHD : Hid _ := hh
    have HREC : Hid (∀ (w1 : World) (y1 : Lay), Tr w1 y1 (addD D (p ++ [n])) hs → TrE w w1 y y1 D (addD D (p ++ [n])) →
        Calls Tryz.prog 39 #[ndV (y1.β (p ++ [n])), .slice (if r.length = 0 then a else a.map (·.add 1)) r.length r.length, h.ptr] w1 fun e w' => e = .returned (.tuple #[]) ∧ ∃ y', Tr w' y' (addW D p (n :: r)) (insH h hs) ∧ TrE w w' y y' D (addW D p (n :: r))) := fun w1 y1 hT1 hE1 => by
      refine (add_any r w1 y1 (addD D (p ++ [n])) hs (p ++ [n]) _ _ h hT1 (addD_mem.2 (.inr rfl)) (fun m hm => hns m (List.mem_cons_of_mem _ hm)) (fun x hx => addD_mem.2 (.inl (hway x hx))) ?_ hl (HN.out.chg hE1.chg (fun b cur hb => hT.w9 hb)) (hh.chg hE1.chg (hT.wh hh)) ?_ hn).mono ?_
      · have := addD_len D (p ++ [n])
        simp at hD
        omega
      · rw [hw, List.append_assoc]; rfl
      · rintro e w2 ⟨he, y2, hT2, hE2⟩
        exact ⟨he, y2, hT2, hE1.trans hE2 (fun q hq _ => addD_mem.2 (.inl hq))⟩
    have hn0 : ¬ ((r.length : Int) + 1 = 0) := by omega
    have hn1 : (0 : Int) < (r.length : Int) + 1 := by omega
    have HC : Hid (w.cell? ⟨b, o, none⟩ = some (.string n)) := hcell
    have HSTAY : Hid (∀ (w1 : World) (y1 : Lay) (D1 : List Way), TrE w w1 y y1 D D1 → w1.cell? ⟨b, o, none⟩ = some (.string n)) := fun w1 y1 D1 h => by
      rw [World.cell?_of_block (w := w) (h.chg.block b (lt_of_blk hb9) (hT.w9 hb9))]
      exact hcell
    subst ha
    subst hc
    have HDR : Hid (∀ w1 : World, ∀ y1 D1, TrE w.drew w1 y y1 D D1 → TrE w w1 y y1 D D1) := fun w1 y1 D1 h => ⟨h.sig, h.beta, ⟨h.chg.os, h.chg.tape, h.chg.output, h.chg.size, h.chg.block⟩, h.new⟩
    have hHD : HdAt w h := hh
    obtain ⟨A', hA'⟩ : ∃ A', (if r.length = 0 then (some ⟨b, o, none⟩ : Option Addr) else (some (⟨b, o, none⟩ : Addr)).map (·.add 1)) = A' := ⟨_, rfl⟩
    rw [hA'] at HREC
    have hsl : ∀ w, (Instr.slice 87 (.slice (some ⟨b, o, none⟩) (r.length + 1) (r.length + 1)) (some (.int .i64 1)) none none).run Tryz.prog w = .ok (.slice A' r.length r.length) w := fun w => by rw [← hA']; exact HSL.out w
    clear hT hp hns hway hD hl hN hh hw hn hA' hb9
    obtain ⟨M, hM⟩ : ∃ M, r.length = M := ⟨_, rfl⟩
    have HM : Hid (r.length = M) := hM
    rw [List.length_cons]
    rw [hM] at hsl HREC hn0 hn1 ⊢
    clear hM
    go_enter Tryz.func39, Tryz.ntmps39
    go_wp2_with fail
    go_region_held3 (fun w' => w'.cell? ⟨b, o, none⟩ = some (.string n)) (first | go_keep | exact hcell)
      (first
        | (go_at_call 66; refine (HK.out 1).mono ?_; rintro e w1 ⟨y1, rfl, hT1, hE1⟩
           have HRC : Hid _ := HREC.out w1 y1 hT1 (HDR.out _ _ _ hE1)
           clear hcell
           have hcell := HSTAY.out _ _ _ (HDR.out _ _ _ hE1)
           clear hT1 hE1)
        | (go_at_call 39; refine Calls.mono HRC.out ?_; rintro e w2 ⟨rfl, hX⟩
           have HX : Hid _ := hX
           clear hcell
           have hcell : w2.cell? ⟨b, o, none⟩ = some (.string n) := by obtain ⟨y2, _, hE2⟩ := hX; exact HSTAY.out _ _ _ hE2
           clear hX))
    go_wp2_with fail
    go_end0
    exact ⟨rfl, HX.out⟩
end Go.Proofs.YtbblckcjedjbcaaGreatDoor
