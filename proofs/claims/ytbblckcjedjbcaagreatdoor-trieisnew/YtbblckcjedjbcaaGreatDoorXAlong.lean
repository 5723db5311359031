/-
  trie: along.
-/
import Derived.Test.YtbblckcjedjbcaaGreatDoorXAddO
namespace Go.Proofs.YtbblckcjedjbcaaGreatDoor
open Go.RowKit Go.Maps
set_option linter.unusedVariables false
set_option linter.unusedSimpArgs false

/-- A list of helds is put behind another one. -/
theorem wpList_appL {w : World} {ops : Array Oper} {rest : List Oper} {o : Oper} {act : Act} {Q : Exit → Act → World → Prop} (hgd : o.guard = none) (s x : Operand)
    (ho : o.op = .call { callee := .builtin .append, args := #[s, x], argTypes := #[76, 76] }) (base : Nat) (v : Value) (l : List He) (hs : act.eval s = v) (hown : w.ownsRow base 91 1 v l.length (ptrs l))
    (a : Option Addr) (c : Nat) (m : List He) (hx : act.eval x = .slice a m.length c) (hm : w.ownsRow 0 91 1 (.slice a m.length c) m.length (ptrs m)) (hlen : l.length + m.length ≤ 1000000) (hB : base ≤ w.heap.size)
    (h : ∀ v' w', w'.ownsRow base 91 1 v' (l ++ m).length (ptrs (l ++ m)) → Below base w w' → wpList Tryz.prog ops Q rest (act.put o.dst v') w') : wpList Tryz.prog ops Q (o :: rest) act w := by
  obtain ⟨i0, hi, hz0, hz1, hz2⟩ := info_parts Tryz.infoS
  rcases hm.2 with ⟨h0, h1⟩ | ⟨g, cap, cur, hv, _⟩
  · have hn : m = [] := by simpa using h1
    subst hn
    simp only [Value.slice.injEq] at h0
    obtain ⟨rfl, _, rfl⟩ := h0
    refine wpList_append_own_none hgd s x 76 ho base 91 i0 1 Tryz.underlying76 hi _ _ _ hs hown hx ?_
    exact h v w (by rw [List.append_nil]; exact hown) (Below.refl _ _)
  · simp only [Value.slice.injEq] at hv
    obtain ⟨rfl, _, rfl⟩ := hv
    refine wpList_append_own_at _ hgd s x 76 ho base 91 i0 _ 1 8 Tryz.underlying76 hi hz0 hz1 hz2 rfl (by decide) v l.length (ptrs l) hs hown ⟨g, 0, none⟩ m.length c (ptrs m) hx (by rw [ptrs_len, Nat.mul_one]) (fun j u hu => by rw [addr_add, Nat.zero_add]; exact cell_n hm hu) (ptrs_one _) (by unfold maxLen; omega) (by omega) hB ?_
    intro v' w' ho' hg' _ hat'
    refine h v' w' (by rw [List.length_append, ptrs_append]; exact ho') ?_
    exact (Chg.grown hg').below hB (fun k hk e => (hown.lt k e).1)
/-- The watches on a way. -/
def alongH (D : List Way) (hs : List He) : Way → List ByteArray → List He
  | p, [] => here hs p
  | p, n :: r => here hs p ++ if inD D (p ++ [n]) then alongH D hs (p ++ [n]) r else []
theorem alongH_len (D : List Way) (hs : List He) (ns : List ByteArray) (p : Way) : (alongH D hs p ns).length ≤ hs.length * (ns.length + 1) := by
  induction ns generalizing p with
  | nil =>
    have : (here hs p).length ≤ hs.length := List.length_filter_le _ _
    simp [alongH]
    exact this
  | cons n r ih =>
    have h1 : (here hs p).length ≤ hs.length := List.length_filter_le _ _
    have h2 := ih (p ++ [n])
    unfold alongH
    rw [List.length_append, List.length_cons, Nat.mul_add, Nat.mul_one]
    rw [Nat.mul_add, Nat.mul_one] at h2
    split
    · rw [Nat.mul_add, Nat.mul_one]; omega
    · simp only [List.length_nil]; rw [Nat.mul_add, Nat.mul_one]; omega
theorem Tr.hlp {w : World} {y : Lay} {D : List Way} {hs : List He} (h : Tr w y D hs) {p : Way} (hp : p ∈ D) : ∃ a c, y.ρ p = .slice a (here hs p).length c ∧ w.ownsRow 0 91 1 (.slice a (here hs p).length c) (here hs p).length (ptrs (here hs p)) := by
  obtain ⟨a, c, h1, h2⟩ := h.hl hp
  exact ⟨a, c, h1, h2.1⟩
set_option maxHeartbeats 16000000 in
set_option maxRecDepth 100000 in
theorem along_any : ∀ (ns : List ByteArray) (w : World) (y : Lay) (D : List Way) (hs : List He) (p : Way) (a : Option Addr) (c base : Nat) (v : Value) (l : List He), Tr w y D hs → p ∈ D → (∀ n ∈ ns, n.size ≤ 1000) → NsAt w a c ns → (∀ k, Ft y D hs k → k < base) → (∀ b cur, w.heap[b]? = some (.cells cur 9 (0, 0)) → ∀ o, a = some ⟨b, o, none⟩ → b < base) → base ≤ w.heap.size → w.ownsRow base 91 1 v l.length (ptrs l) → l.length + hs.length * (ns.length + 1) ≤ 100000 → ns.length ≤ 1000 →
    Calls Tryz.prog 31 #[ndV (y.β p), .slice a ns.length c, v] w fun e w' => ∃ v', e = .returned v' ∧ w'.ownsRow base 91 1 v' (l ++ alongH D hs p ns).length (ptrs (l ++ alongH D hs p ns)) ∧ Below base w w'
  | [], w, y, D, hs, p, a, c, base, v, l, hT, hp, hns, hN, hF, hA, hB, hv, hl, hnl => by
    have hc : c = 0 := hN.1
    subst hc
    obtain ⟨a', c', hρ, hm⟩ := hT.hlp hp
    obtain ⟨c0, c1, _, fz⟩ := (hT.nd p hp).cells
    rw [hρ] at c1
    have hln : l.length + (here hs p).length ≤ 1000000 := by
      have : (here hs p).length ≤ hs.length := List.length_filter_le _ _
      simp at hl
      omega
    have HV : Hid _ := hv
    have HM : Hid _ := hm
    clear hT hp hns hN hF hA hv hl hρ hm hnl
    go_enter Tryz.func31, Tryz.ntmps31
    go_wp2_with (first | (at_builtin; refine wpList_appL rfl _ _ rfl base v l rfl HV.out a' c' (here hs p) rfl HM.out hln hB ?_; intro v2 w2 ho2 hb2; (have HO : Hid _ := ho2); (have HB2 : Hid _ := hb2); clear ho2 hb2 c0 c1 fz) | fail)
    go_ret
    exact ⟨v2, rfl, HO.out, HB2.out⟩
  | n :: r, w, y, D, hs, p, a, c, base, v, l, hT, hp, hns, hN, hF, hA, hB, hv, hl, hnl => by
    obtain ⟨hc, b, o, cur9, ha, hb9, hcell⟩ := hN.head
    obtain ⟨a', c', hρ, hm⟩ := hT.hlp hp
    obtain ⟨c0, c1, _, fz⟩ := (hT.nd p hp).cells
    rw [hρ] at c1
    have hhl : (here hs p).length ≤ hs.length := List.length_filter_le _ _
    have hln : l.length + (here hs p).length ≤ 1000000 := by
      rw [List.length_cons, Nat.mul_add, Nat.mul_one] at hl
      omega
    have hr : r.length ≤ 100000 := by rw [List.length_cons] at hnl; omega
    subst ha
    subst hc
    obtain ⟨A', hA'⟩ : ∃ A', (if r.length = 0 then (some ⟨b, o, none⟩ : Option Addr) else (some (⟨b, o, none⟩ : Addr)).map (·.add 1)) = A' := ⟨_, rfl⟩
    have HSL : Hid (∀ w, (Instr.slice 87 (.slice (some ⟨b, o, none⟩) (r.length + 1) (r.length + 1)) (some (.int .i64 1)) none none).run Tryz.prog w = .ok (.slice A' r.length r.length) w) := fun w => by rw [← hA']; exact slice_tail _ r.length w hr
    have hbb : b < base := hA b cur9 hb9 o rfl
    have hβb : y.β p < base := hF _ (.inl (.inl ⟨p, hp, rfl⟩))
    have hnn := hns n List.mem_cons_self
    have HREC : Hid (p ++ [n] ∈ D → ∀ (w1 : World) (v1 : Value), Below base w w1 → w1.ownsRow base 91 1 v1 (l ++ here hs p).length (ptrs (l ++ here hs p)) →
        Calls Tryz.prog 31 #[ndV (y.β (p ++ [n])), .slice A' r.length r.length, v1] w1 fun e w' => ∃ v', e = .returned v' ∧ w'.ownsRow base 91 1 v' (l ++ (here hs p ++ alongH D hs (p ++ [n]) r)).length (ptrs (l ++ (here hs p ++ alongH D hs (p ++ [n]) r))) ∧ Below base w1 w') := fun hin w1 v1 hb1 ho1 => by
      have hc1 : Chg w w1 (fun k => base ≤ k) := ⟨hb1.os, hb1.tape, hb1.output, hb1.size, fun k hk hn => hb1.block k (by omega)⟩
      have htl := hN.tail
      rw [hA'] at htl
      have := along_any r w1 y D hs (p ++ [n]) A' r.length base v1 (l ++ here hs p) (hT.chg hc1 (fun k hk e => by have := hF k hk; omega)) hin (fun m hm => hns m (List.mem_cons_of_mem _ hm)) ?_ hF ?_ (Nat.le_trans hB hb1.size) ho1 ?_ (by rw [List.length_cons] at hnl; omega)
      · rw [List.append_assoc] at this
        exact this
      · obtain ⟨h1, h2⟩ := htl
        refine ⟨h1, h2.imp id (fun ⟨b2, o2, cur2, e, hx, hy⟩ => ⟨b2, o2, cur2, e, ?_, hy⟩)⟩
        have hb2 : b2 = b := by
          rw [← hA'] at e
          split at e
          · cases e; rfl
          · simp [addr_add] at e; exact e.1.symm
        rw [hb1.block b2 (by omega)]
        exact hx
      · intro b2 cur2 hx o2 e
        have hb2 : b2 = b := by
          rw [← hA'] at e
          split at e
          · cases e; rfl
          · simp [addr_add] at e; exact e.1.symm
        omega
      · rw [List.length_append]
        rw [List.length_cons, Nat.mul_add, Nat.mul_one] at hl
        omega
    have HLK : Hid (∀ w1, Below base w w1 → (Instr.lookup 74 (.map (y.μ p)) (.string n) true).run Tryz.prog w1 = .ok (.tuple #[kidV p D y.β n, .bool (inD D (p ++ [n]))]) w1) := fun w1 hb1 => by
      have hc1 : Chg w w1 (fun k => base ≤ k) := ⟨hb1.os, hb1.tape, hb1.output, hb1.size, fun k hk hn => hb1.block k (by omega)⟩
      exact (hT.chg hc1 (fun k hk e => by have := hF k hk; omega)).kids p hp |>.look hnn
    have hn0 : ¬ ((r.length : Int) + 1 = 0) := by omega
    have hn1 : (0 : Int) < (r.length : Int) + 1 := by omega
    have HV : Hid _ := hv
    have HM : Hid _ := hm
    have HC : Hid (w.cell? ⟨b, o, none⟩ = some (.string n)) := hcell
    have HC0 : Hid (w.cell? ⟨y.β p, 0, none⟩ = some (.map (y.μ p))) := c0
    clear hT hp hns hN hF hA hv hl hρ hm hA' hb9 hhl hnn hcell hnl
    obtain ⟨M, hM⟩ : ∃ M, r.length = M := ⟨_, rfl⟩
    rw [List.length_cons]
    rw [hM] at HREC HSL hn0 hn1 ⊢
    clear hM hr
    by_cases hin : p ++ [n] ∈ D
    · have e1 : kidV p D y.β n = ndV (y.β (p ++ [n])) := by unfold kidV; rw [if_pos (inD_iff.2 hin)]
      have e2 : alongH D hs p (n :: r) = here hs p ++ alongH D hs (p ++ [n]) r := by show here hs p ++ (if inD D (p ++ [n]) then _ else _) = _; rw [if_pos (inD_iff.2 hin)]
      rw [e2]
      rw [e1, inD_iff.2 hin] at HLK
      have HR : Hid _ := HREC.out hin
      clear e1 e2 HREC hin
      go_enter Tryz.func31, Tryz.ntmps31
      go_upto_region 4 with (first | (at_builtin; refine wpList_appL rfl _ _ rfl base v l rfl HV.out a' c' (here hs p) rfl HM.out hln hB ?_; intro v2 w2 ho2 hb2; (have HO : Hid _ := ho2); (have HB2 : Hid _ := hb2); clear ho2 hb2 c0 c1 fz) | fail)
      have c0 : w2.cell? ⟨y.β p, 0, none⟩ = some (.map (y.μ p)) := by rw [HB2.out.cell (p := ⟨y.β p, 0, none⟩) hβb]; exact HC0.out
      have hcell : w2.cell? ⟨b, o, none⟩ = some (.string n) := by rw [HB2.out.cell (p := ⟨b, o, none⟩) hbb]; exact HC.out
      have hlk := fun m => HLK.out (w2.drewN m) (below_drewN HB2.out m)
      have hsl := HSL.out
      go_quiet (fail)
      go_wp2_with fail
      refine Calls.mono (HR.out _ v2 (below_drewN HB2.out _) HO.out) ?_
      rintro e w3 ⟨v3, rfl, ho3, hb3⟩
      have HO3 : Hid _ := ho3
      have HB3 : Hid _ := hb3
      clear ho3 hb3 hlk hsl c0 hcell
      go_wp2_with fail
      go_ret
      exact ⟨v3, rfl, HO3.out, (below_drewN HB2.out _).trans HB3.out⟩
    · have e1 : kidV p D y.β n = .pointer none := by unfold kidV; rw [inD_not hin]; rfl
      have e2 : alongH D hs p (n :: r) = here hs p := by show here hs p ++ (if inD D (p ++ [n]) then _ else _) = _; rw [inD_not hin]; simp
      rw [e2]
      rw [e1, inD_not hin] at HLK
      clear e1 e2 HREC hin
      go_enter Tryz.func31, Tryz.ntmps31
      go_upto_region 4 with (first | (at_builtin; refine wpList_appL rfl _ _ rfl base v l rfl HV.out a' c' (here hs p) rfl HM.out hln hB ?_; intro v2 w2 ho2 hb2; (have HO : Hid _ := ho2); (have HB2 : Hid _ := hb2); clear ho2 hb2 c0 c1 fz) | fail)
      have c0 : w2.cell? ⟨y.β p, 0, none⟩ = some (.map (y.μ p)) := by rw [HB2.out.cell (p := ⟨y.β p, 0, none⟩) hβb]; exact HC0.out
      have hcell : w2.cell? ⟨b, o, none⟩ = some (.string n) := by rw [HB2.out.cell (p := ⟨b, o, none⟩) hbb]; exact HC.out
      have hlk := fun m => HLK.out (w2.drewN m) (below_drewN HB2.out m)
      go_quiet (fail)
      clear hlk c0 hcell
      go_wp2_with fail
      go_ret
      exact ⟨v2, rfl, HO.out, below_drewN HB2.out _⟩
end Go.Proofs.YtbblckcjedjbcaaGreatDoor
