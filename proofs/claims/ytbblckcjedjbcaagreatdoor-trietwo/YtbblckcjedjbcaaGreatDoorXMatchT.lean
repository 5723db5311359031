import Derived.Test.YtbblckcjedjbcaaGreatDoorXAddO
import Derived.Test.YtbblckcjedjbcaaGreatDoorShelfG
import Derived.Shelf.SlSortCmp.WholeK
import Derived.Sort.OwnSorted
namespace Go.Proofs.YtbblckcjedjbcaaGreatDoor
open Go.RowKit Go.Maps
set_option linter.unusedVariables false
set_option linter.unusedSimpArgs false

/-- A list of helds is put behind another one. -/
theorem wpList_appL {w : World} {ops : Array Oper} {rest : List Oper} {o : Oper} {act : Act} {Q : Exit → Act → World → Prop} (hgd : o.guard = none) (s x : Operand)
    (ho : o.op = .call { callee := .builtin .append, args := #[s, x], argTypes := #[76, 76] }) (base : Nat) (v : Value) (l : List He) (hs : act.eval s = v) (hown : w.ownsRow base 91 1 v l.length (ptrs l))
    (a : Option Addr) (c : Nat) (m : List He) (hx : act.eval x = .slice a m.length c) (hm : w.ownsRow 0 91 1 (.slice a m.length c) m.length (ptrs m)) (hlen : l.length + m.length ≤ 1000000) (hB : base ≤ w.heap.size)
    (h : ∀ v' w', w'.ownsRow base 91 1 v' (l ++ m).length (ptrs (l ++ m)) → Below base w w' → wpList Tryz.prog ops Q rest (act.put o.dst v') w') : wpList Tryz.prog ops Q (o :: rest) act w := by
  obtain ⟨i0, hi, hz0, hz1, hz2⟩ := info_parts Tryz.infoS
  rcases hm.2 with ⟨h0, h1⟩ | ⟨g, cap, cur, hv, _⟩
  · have hn : m = [] := by simpa using h1
    subst hn
    simp only [Value.slice.injEq] at h0
    obtain ⟨rfl, _, rfl⟩ := h0
    refine wpList_append_own_none hgd s x 76 ho base 91 i0 1 Tryz.underlying76 hi _ _ _ hs hown hx ?_
    exact h v w (by rw [List.append_nil]; exact hown) (Below.refl _ _)
  · simp only [Value.slice.injEq] at hv
    obtain ⟨rfl, _, rfl⟩ := hv
    refine wpList_append_own_at _ hgd s x 76 ho base 91 i0 _ 1 8 Tryz.underlying76 hi hz0 hz1 hz2 rfl (by decide) v l.length (ptrs l) hs hown ⟨g, 0, none⟩ m.length c (ptrs m) hx (by rw [ptrs_len, Nat.mul_one]) (fun j u hu => by rw [addr_add, Nat.zero_add]; exact cell_n hm hu) (ptrs_one _) (by unfold maxLen; omega) (by omega) hB ?_
    intro v' w' ho' hg' _ hat'
    refine h v' w' (by rw [List.length_append, ptrs_append]; exact ho') ?_
    exact (Chg.grown hg').below hB (fun k hk e => (hown.lt k e).1)
/-- The watches on a way. -/
def alongH (D : List Way) (hs : List He) : Way → List ByteArray → List He
  | p, [] => here hs p
  | p, n :: r => here hs p ++ if inD D (p ++ [n]) then alongH D hs (p ++ [n]) r else []
theorem alongH_len (D : List Way) (hs : List He) (ns : List ByteArray) (p : Way) : (alongH D hs p ns).length ≤ hs.length * (ns.length + 1) := by
  induction ns generalizing p with
  | nil =>
    have : (here hs p).length ≤ hs.length := List.length_filter_le _ _
    simp [alongH]
    exact this
  | cons n r ih =>
    have h1 : (here hs p).length ≤ hs.length := List.length_filter_le _ _
    have h2 := ih (p ++ [n])
    unfold alongH
    rw [List.length_append, List.length_cons, Nat.mul_add, Nat.mul_one]
    rw [Nat.mul_add, Nat.mul_one] at h2
    split
    · rw [Nat.mul_add, Nat.mul_one]; omega
    · simp only [List.length_nil]; rw [Nat.mul_add, Nat.mul_one]; omega
theorem Tr.hlp {w : World} {y : Lay} {D : List Way} {hs : List He} (h : Tr w y D hs) {p : Way} (hp : p ∈ D) : ∃ a c, y.ρ p = .slice a (here hs p).length c ∧ w.ownsRow 0 91 1 (.slice a (here hs p).length c) (here hs p).length (ptrs (here hs p)) := by
  obtain ⟨a, c, h1, h2⟩ := h.hl hp
  exact ⟨a, c, h1, h2.1⟩
set_option maxHeartbeats 16000000 in
set_option maxRecDepth 100000 in
theorem along_any : ∀ (ns : List ByteArray) (w : World) (y : Lay) (D : List Way) (hs : List He) (p : Way) (a : Option Addr) (c base : Nat) (v : Value) (l : List He), Tr w y D hs → p ∈ D → (∀ n ∈ ns, n.size ≤ 1000) → NsAt w a c ns → (∀ k, Ft y D hs k → k < base) → (∀ b cur, w.heap[b]? = some (.cells cur 9 (0, 0)) → ∀ o, a = some ⟨b, o, none⟩ → b < base) → base ≤ w.heap.size → w.ownsRow base 91 1 v l.length (ptrs l) → l.length + hs.length * (ns.length + 1) ≤ 100000 → ns.length ≤ 1000 →
    Calls Tryz.prog 31 #[ndV (y.β p), .slice a ns.length c, v] w fun e w' => ∃ v', e = .returned v' ∧ w'.ownsRow base 91 1 v' (l ++ alongH D hs p ns).length (ptrs (l ++ alongH D hs p ns)) ∧ Below base w w'
  | [], w, y, D, hs, p, a, c, base, v, l, hT, hp, hns, hN, hF, hA, hB, hv, hl, hnl => by
    have hc : c = 0 := hN.1
    subst hc
    obtain ⟨a', c', hρ, hm⟩ := hT.hlp hp
    obtain ⟨c0, c1, _, fz⟩ := (hT.nd p hp).cells
    rw [hρ] at c1
    have hln : l.length + (here hs p).length ≤ 1000000 := by
      have : (here hs p).length ≤ hs.length := List.length_filter_le _ _
      simp at hl
      omega
    have HV : Hid _ := hv
    have HM : Hid _ := hm
    clear hT hp hns hN hF hA hv hl hρ hm hnl
    go_enter Tryz.func31, Tryz.ntmps31
    go_wp2_with (first | (at_builtin; refine wpList_appL rfl _ _ rfl base v l rfl HV.out a' c' (here hs p) rfl HM.out hln hB ?_; intro v2 w2 ho2 hb2; (have HO : Hid _ := ho2); (have HB2 : Hid _ := hb2); clear ho2 hb2 c0 c1 fz) | fail)
    go_ret
    exact ⟨v2, rfl, HO.out, HB2.out⟩
  | n :: r, w, y, D, hs, p, a, c, base, v, l, hT, hp, hns, hN, hF, hA, hB, hv, hl, hnl => by
    obtain ⟨hc, b, o, cur9, ha, hb9, hcell⟩ := hN.head
    obtain ⟨a', c', hρ, hm⟩ := hT.hlp hp
    obtain ⟨c0, c1, _, fz⟩ := (hT.nd p hp).cells
    rw [hρ] at c1
    have hhl : (here hs p).length ≤ hs.length := List.length_filter_le _ _
    have hln : l.length + (here hs p).length ≤ 1000000 := by
      rw [List.length_cons, Nat.mul_add, Nat.mul_one] at hl
      omega
    have hr : r.length ≤ 100000 := by rw [List.length_cons] at hnl; omega
    subst ha
    subst hc
    obtain ⟨A', hA'⟩ : ∃ A', (if r.length = 0 then (some ⟨b, o, none⟩ : Option Addr) else (some (⟨b, o, none⟩ : Addr)).map (·.add 1)) = A' := ⟨_, rfl⟩
    have HSL : Hid (∀ w, (Instr.slice 87 (.slice (some ⟨b, o, none⟩) (r.length + 1) (r.length + 1)) (some (.int .i64 1)) none none).run Tryz.prog w = .ok (.slice A' r.length r.length) w) := fun w => by rw [← hA']; exact slice_tail _ r.length w hr
    have hbb : b < base := hA b cur9 hb9 o rfl
    have hβb : y.β p < base := hF _ (.inl (.inl ⟨p, hp, rfl⟩))
    have hnn := hns n List.mem_cons_self
    have HREC : Hid (p ++ [n] ∈ D → ∀ (w1 : World) (v1 : Value), Below base w w1 → w1.ownsRow base 91 1 v1 (l ++ here hs p).length (ptrs (l ++ here hs p)) →
        Calls Tryz.prog 31 #[ndV (y.β (p ++ [n])), .slice A' r.length r.length, v1] w1 fun e w' => ∃ v', e = .returned v' ∧ w'.ownsRow base 91 1 v' (l ++ (here hs p ++ alongH D hs (p ++ [n]) r)).length (ptrs (l ++ (here hs p ++ alongH D hs (p ++ [n]) r))) ∧ Below base w1 w') := fun hin w1 v1 hb1 ho1 => by
      have hc1 : Chg w w1 (fun k => base ≤ k) := ⟨hb1.os, hb1.tape, hb1.output, hb1.size, fun k hk hn => hb1.block k (by omega)⟩
      have htl := hN.tail
      rw [hA'] at htl
      have := along_any r w1 y D hs (p ++ [n]) A' r.length base v1 (l ++ here hs p) (hT.chg hc1 (fun k hk e => by have := hF k hk; omega)) hin (fun m hm => hns m (List.mem_cons_of_mem _ hm)) ?_ hF ?_ (Nat.le_trans hB hb1.size) ho1 ?_ (by rw [List.length_cons] at hnl; omega)
      · rw [List.append_assoc] at this
        exact this
      · obtain ⟨h1, h2⟩ := htl
        refine ⟨h1, h2.imp id (fun ⟨b2, o2, cur2, e, hx, hy⟩ => ⟨b2, o2, cur2, e, ?_, hy⟩)⟩
        have hb2 : b2 = b := by
          rw [← hA'] at e
          split at e
          · cases e; rfl
          · simp [addr_add] at e; exact e.1.symm
        rw [hb1.block b2 (by omega)]
        exact hx
      · intro b2 cur2 hx o2 e
        have hb2 : b2 = b := by
          rw [← hA'] at e
          split at e
          · cases e; rfl
          · simp [addr_add] at e; exact e.1.symm
        omega
      · rw [List.length_append]
        rw [List.length_cons, Nat.mul_add, Nat.mul_one] at hl
        omega
    have HLK : Hid (∀ w1, Below base w w1 → (Instr.lookup 74 (.map (y.μ p)) (.string n) true).run Tryz.prog w1 = .ok (.tuple #[kidV p D y.β n, .bool (inD D (p ++ [n]))]) w1) := fun w1 hb1 => by
      have hc1 : Chg w w1 (fun k => base ≤ k) := ⟨hb1.os, hb1.tape, hb1.output, hb1.size, fun k hk hn => hb1.block k (by omega)⟩
      exact (hT.chg hc1 (fun k hk e => by have := hF k hk; omega)).kids p hp |>.look hnn
    have hn0 : ¬ ((r.length : Int) + 1 = 0) := by omega
    have hn1 : (0 : Int) < (r.length : Int) + 1 := by omega
    have HV : Hid _ := hv
    have HM : Hid _ := hm
    have HC : Hid (w.cell? ⟨b, o, none⟩ = some (.string n)) := hcell
    have HC0 : Hid (w.cell? ⟨y.β p, 0, none⟩ = some (.map (y.μ p))) := c0
    clear hT hp hns hN hF hA hv hl hρ hm hA' hb9 hhl hnn hcell hnl
    obtain ⟨M, hM⟩ : ∃ M, r.length = M := ⟨_, rfl⟩
    rw [List.length_cons]
    rw [hM] at HREC HSL hn0 hn1 ⊢
    clear hM hr
    by_cases hin : p ++ [n] ∈ D
    · have e1 : kidV p D y.β n = ndV (y.β (p ++ [n])) := by unfold kidV; rw [if_pos (inD_iff.2 hin)]
      have e2 : alongH D hs p (n :: r) = here hs p ++ alongH D hs (p ++ [n]) r := by show here hs p ++ (if inD D (p ++ [n]) then _ else _) = _; rw [if_pos (inD_iff.2 hin)]
      rw [e2]
      rw [e1, inD_iff.2 hin] at HLK
      have HR : Hid _ := HREC.out hin
      clear e1 e2 HREC hin
      go_enter Tryz.func31, Tryz.ntmps31
      go_upto_region 4 with (first | (at_builtin; refine wpList_appL rfl _ _ rfl base v l rfl HV.out a' c' (here hs p) rfl HM.out hln hB ?_; intro v2 w2 ho2 hb2; (have HO : Hid _ := ho2); (have HB2 : Hid _ := hb2); clear ho2 hb2 c0 c1 fz) | fail)
      have c0 : w2.cell? ⟨y.β p, 0, none⟩ = some (.map (y.μ p)) := by rw [HB2.out.cell (p := ⟨y.β p, 0, none⟩) hβb]; exact HC0.out
      have hcell : w2.cell? ⟨b, o, none⟩ = some (.string n) := by rw [HB2.out.cell (p := ⟨b, o, none⟩) hbb]; exact HC.out
      have hlk := fun m => HLK.out (w2.drewN m) (below_drewN HB2.out m)
      have hsl := HSL.out
      go_quiet (fail)
      go_wp2_with fail
      refine Calls.mono (HR.out _ v2 (below_drewN HB2.out _) HO.out) ?_
      rintro e w3 ⟨v3, rfl, ho3, hb3⟩
      have HO3 : Hid _ := ho3
      have HB3 : Hid _ := hb3
      clear ho3 hb3 hlk hsl c0 hcell
      go_wp2_with fail
      go_ret
      exact ⟨v3, rfl, HO3.out, (below_drewN HB2.out _).trans HB3.out⟩
    · have e1 : kidV p D y.β n = .pointer none := by unfold kidV; rw [inD_not hin]; rfl
      have e2 : alongH D hs p (n :: r) = here hs p := by show here hs p ++ (if inD D (p ++ [n]) then _ else _) = _; rw [inD_not hin]; simp
      rw [e2]
      rw [e1, inD_not hin] at HLK
      clear e1 e2 HREC hin
      go_enter Tryz.func31, Tryz.ntmps31
      go_upto_region 4 with (first | (at_builtin; refine wpList_appL rfl _ _ rfl base v l rfl HV.out a' c' (here hs p) rfl HM.out hln hB ?_; intro v2 w2 ho2 hb2; (have HO : Hid _ := ho2); (have HB2 : Hid _ := hb2); clear ho2 hb2 c0 c1 fz) | fail)
      have c0 : w2.cell? ⟨y.β p, 0, none⟩ = some (.map (y.μ p)) := by rw [HB2.out.cell (p := ⟨y.β p, 0, none⟩) hβb]; exact HC0.out
      have hcell : w2.cell? ⟨b, o, none⟩ = some (.string n) := by rw [HB2.out.cell (p := ⟨b, o, none⟩) hbb]; exact HC.out
      have hlk := fun m => HLK.out (w2.drewN m) (below_drewN HB2.out m)
      go_quiet (fail)
      clear hlk c0 hcell
      go_wp2_with fail
      go_ret
      exact ⟨v2, rfl, HO.out, below_drewN HB2.out _⟩
end Go.Proofs.YtbblckcjedjbcaaGreatDoor
namespace Go.Proofs.YtbblckcjedjbcaaGreatDoor
open Go.RowKit Go.Maps Go.Sort Go.Shelf
set_option linter.unusedVariables false
set_option linter.unusedSimpArgs false

abbrev Tg := Int × Int
def encT (t : Tg) : List Value := [.int .i64 t.1, .int .i64 t.2]
def cfT (a b : Tg) : Int := ctI a.1 a.2 b.1 b.2
def befT (a b : Tg) : Bool := befB a.1 a.2 b.1 b.2
theorem ltT (a b : Tg) : ltOf cfT a b = befT a b := by
  rw [Bool.eq_iff_iff]
  unfold ltOf cfT befT
  rw [← ct_neg]
  simp
theorem bef_cotrans {a b c d e f : Int} (h1 : befB a b c d = false) (h2 : befB c d e f = false) : befB a b e f = false := by
  unfold befB at *
  simp only [Bool.or_eq_false_iff, Bool.and_eq_false_iff, decide_eq_false_iff_not] at *
  omega
theorem swoT : SWO (ltOf cfT) where
  irrefl x := by rw [ltT]; exact bef_irr _ _
  trans x y z h1 h2 := by rw [ltT] at *; exact bef_trans h1 h2
  ntrans x y z h1 h2 := by rw [ltT] at *; exact bef_cotrans h1 h2
theorem cmpT (blk off size : Nat) (w : World) : CmpLays Tryz.prog 35 #[] encT 2 cfT blk off size w := by
  intro m os dk _ x y
  refine (order_tags x.1 x.2 y.1 y.2 _).mono ?_
  rintro e w' ⟨he, n, os', hw⟩
  exact ⟨he, n, os', hw⟩
end Go.Proofs.YtbblckcjedjbcaaGreatDoor
namespace Go.Proofs.YtbblckcjedjbcaaGreatDoor
open Go.RowKit Go.Maps Go.Sort Go.Shelf
set_option linter.unusedVariables false
set_option linter.unusedSimpArgs false

def tgCs (ts : List Tg) : List Value := ts.flatMap encT
theorem tgCs_len (ts : List Tg) : (tgCs ts).length = ts.length * 2 := by
  induction ts with
  | nil => rfl
  | cons t r ih =>
    have e : tgCs (t :: r) = .int .i64 t.1 :: .int .i64 t.2 :: tgCs r := rfl
    rw [e, List.length_cons, List.length_cons, List.length_cons, ih]
    omega
theorem tgCs_append (a b : List Tg) : tgCs (a ++ b) = tgCs a ++ tgCs b := by simp [tgCs]
theorem tgCs_at (ts : List Tg) (t : Nat) (h : t < ts.length * 2) : (tgCs ts)[t]? = some ((encT ts.toArray[t / 2]!)[t % 2]!) := by
  induction ts generalizing t with
  | nil => simp at h
  | cons a r ih =>
    have e : tgCs (a :: r) = .int .i64 a.1 :: .int .i64 a.2 :: tgCs r := rfl
    rw [e]
    match t with
    | 0 => simp [encT]
    | 1 => simp [encT]
    | t + 2 =>
      have h1 := ih t (by simp at h; omega)
      have e1 : (t + 2) / 2 = t / 2 + 1 := by omega
      have e2 : (t + 2) % 2 = t % 2 := by omega
      rw [e1, e2, List.getElem?_cons_succ, List.getElem?_cons_succ, h1]
      simp
theorem flatT (ts : List Tg) : (flatK encT 2 ts.toArray).toList = tgCs ts := by
  apply List.ext_getElem?
  intro j
  by_cases hj : j < ts.length * 2
  · rw [tgCs_at ts j hj, Array.getElem?_toList]
    have hs : j < (flatK encT 2 ts.toArray).size := by simp; omega
    rw [Array.getElem?_eq_getElem hs, ← getElem!_pos _ j hs, get_flatK _ _ _ _ (by simpa using hj)]
  · rw [List.getElem?_eq_none (by simp; omega), List.getElem?_eq_none (by rw [tgCs_len]; omega)]
theorem heap_putId {w : World} {g n : Nat} {os : Array Obj} {cur : Array Value} {e : TypeId} {fr : Nat × Nat} (F : Array Value) (hb : w.heap[g]? = some (.cells cur e fr)) :
    (grow (putRow id (Sort.ahead w n) g 0 F) os).heap[g]? = some (.cells (putCells id 0 F cur) e fr) := by
  have hg : g < w.heap.size := (Array.getElem?_eq_some_iff.1 hb).1
  rw [heap_grow_old _ _ (by simpa using hg)]
  simp [putRow, mapBlock, Sort.ahead, Array.getElem?_modify, hb, onCells]
theorem grown_putId {w : World} {g n : Nat} {os : Array Obj} (F : Array Value) : w.grownBy (grow (putRow id (Sort.ahead w n) g 0 F) os) (some g) := by
  refine ⟨rfl, rfl, rfl, by simp, fun k hk hne => ?_⟩
  rw [heap_grow_old _ _ (by simpa using hk)]
  have : g ≠ k := fun e => hne (by rw [e])
  simp [putRow, mapBlock, Sort.ahead, Array.getElem?_modify, this]
theorem take_putId (cur F : Array Value) (h : F.size ≤ cur.size) : (putCells id 0 F cur).toList.take F.size = F.toList := by
  apply List.ext_getElem?
  intro j
  by_cases hj : j < F.size
  · rw [List.getElem?_take_of_lt hj, Array.getElem?_toList]
    simp [putCells, hj, show j < cur.size by omega]
  · rw [List.getElem?_take_eq_none (by omega), List.getElem?_eq_none (by simp; omega)]
theorem encT_len (t : Tg) : (encT t).length = 2 := rfl
theorem encT_one (t : Tg) : ∀ v ∈ encT t, v.oneCell' = true := by
  intro v hv
  simp [encT] at hv
  rcases hv with rfl | rfl <;> rfl
abbrev ordTV : Value := .func (.func 35) #[] #[]
set_option maxHeartbeats 4000000 in
theorem sortTags (base g cap : Nat) (ts : List Tg) (w : World) (ho : w.ownsRow base 34 2 (.slice (some ⟨g, 0, none⟩) ts.length cap) ts.length (tgCs ts)) (hl : ts.length ≤ 100000) :
    Calls Tryz.prog 34 #[.slice (some ⟨g, 0, none⟩) ts.length cap, ordTV] w fun e w' => e = .returned (.tuple #[]) ∧ ∃ us : List Tg, us.Perm ts ∧ us.Pairwise (fun a b => befT b a = false) ∧ w'.ownsRow base 34 2 (.slice (some ⟨g, 0, none⟩) ts.length cap) ts.length (tgCs us) ∧ w.grownBy w' (some g) := by
  rcases ho.2 with ⟨h0, _⟩ | ⟨g', cap', cur, hv, hB, hg, hn, hc, hsz, ht⟩
  · cases h0
  obtain ⟨rfl, rfl⟩ : g = g' ∧ cap = cap' := by
    simp only [Value.slice.injEq, Option.some.injEq, Addr.mk.injEq] at hv
    exact ⟨hv.1.1, hv.2.2⟩
  have hH : HoldsK encT 2 w g 0 ts.toArray := by
    intro j hj
    have hj' : j < ts.length * 2 := by simpa using hj
    rw [get_flatK _ _ _ _ (by simpa using hj')]
    refine ⟨?_, by simp [World.frozen?, hg]⟩
    have h1 := cell_n ho (tgCs_at ts j hj')
    rw [Nat.zero_add]
    exact h1
  have hcon := AnyQ.slices_SortFunc Tryz.sortT 2 (by intro w; kernel_rfl) (by intro w; kernel_rfl) encT encT_len encT_one cfT swoT 35 #[] g 0 cap ts.toArray w (enters_of Tryz.func35 (by kernel_rfl) rfl) (cmpT g 0 ts.toArray.size w) hH (lt_of_blk hg) (by simp; omega)
  have HCON : Calls Tryz.prog 34 #[.slice (some ⟨g, 0, none⟩) ts.length cap, ordTV] w fun e w' => e = .returned (.tuple #[]) ∧ ∃ d' n os, PermIn 0 ts.toArray.size ts.toArray d' ∧ SortedIn (ltOf cfT) 0 ts.toArray.size d' ∧ w' = sortWorldK encT 2 w g 0 n d' os := hcon
  refine Calls.mono HCON ?_
  rintro e w2 ⟨rfl, d', nn, os, hpm, hso, rfl⟩
  obtain ⟨us, rfl⟩ : ∃ us : List Tg, d' = us.toArray := ⟨d'.toList, by simp⟩
  have hlu : us.length = ts.length := by simpa using hpm.1
  have hpp : us.Perm ts := by
    have := hpm.2.2
    simpa [hlu, List.take_of_length_le] using this
  refine ⟨rfl, us, hpp, ?_, ?_, grown_putId _⟩
  · rw [List.pairwise_iff_getElem]
    intro i j hi hj hij
    have hs := hso i j (Nat.zero_le _) hij (by simp; omega)
    have e1 : us.toArray[j]! = us[j] := by simp [hj]
    have e2 : us.toArray[i]! = us[i] := by simp [hi]
    rw [e1, e2, ltT] at hs
    exact hs
  · refine ⟨by rw [tgCs_len, hlu], .inr ⟨g, cap, _, rfl, hB, heap_putId _ hg, hn, hc, by simp [putCells, hsz], ?_⟩⟩
    have h1 := take_putId cur (flatK encT 2 us.toArray) (by simp; omega)
    rw [flatT] at h1
    have e : (flatK encT 2 us.toArray).size = ts.length * 2 := by simp [hlu]
    rw [e] at h1
    exact h1
set_option maxHeartbeats 4000000 in
set_option maxRecDepth 100000 in
theorem sortNil (w : World) :
    Calls Tryz.prog 34 #[.slice none 0 0, ordTV] w fun e w' => e = .returned (.tuple #[]) ∧ Below w.heap.size w w' := by
  go_enter Tryz.func34, Tryz.ntmps34
  go_wp2_with (first | go_in | fail)
  refine wp_loop_rounds 1 ?_
  rw [rounds_succ]
  go_wp2_with (first | go_in | fail)
  refine wp_loop_rounds 1 ?_
  rw [rounds_succ]
  go_wp2_with (first | go_in | fail)
  go_end0
  simp only []
  go_wp2_with (first | go_in | fail)
  refine bodyPost_ret (results_none rfl _ _ _) rfl ?_
  simp only []
  go_wp2_with (first | go_in | fail)
  go_end0
  exact ⟨rfl, Below.refl _ _⟩
end Go.Proofs.YtbblckcjedjbcaaGreatDoor
namespace Go.Proofs.YtbblckcjedjbcaaGreatDoor
open Go.RowKit Go.Maps
set_option linter.unusedVariables false
set_option linter.unusedSimpArgs false

abbrev chV (k : Int) (p d : ByteArray) (v : Int) : Value := .agg #[.int .i64 k, .string p, .string d, .int .i64 v]
/-- Whether a watch is for a change. -/
def matH (stamp ck : Int) (cp : ByteArray) (h : He) : Bool := decide (h.f < stamp) && covers h.k h.p ck cp
set_option maxHeartbeats 16000000 in
set_option maxRecDepth 100000 in
theorem matches_any (h : He) (stamp ck : Int) (cp cd : ByteArray) (cv : Int) (w : World) (hh : HdAt w h) (hg : Ground w) :
    Calls Tryz.prog 32 #[h.ptr, .int .i64 stamp, chV ck cp cd cv] w fun e w' => e = .returned (.bool (matH stamp ck cp h)) ∧ Below w.heap.size w w' := by
  have hb0 : Below w.heap.size w (w.alloc (.cells #[.int .i64 ck, .string cp, .string cd, .int .i64 cv] 24)) := (Below.refl _ _).alloc (Nat.le_refl _) _
  have hx0 : (w.alloc (.cells #[.int .i64 ck, .string cp, .string cd, .int .i64 cv] 24)).heap[w.heap.size]? = some (.cells #[.int .i64 ck, .string cp, .string cd, .int .i64 cv] 24 (0, 0)) := heap_alloc_new _ _
  obtain ⟨b0, b1, b2, b3⟩ := cells_4 hx0
  obtain ⟨x0, x1, x2, x3, x4⟩ := cells_5 (hh.below hb0)
  have HB0 : Hid _ := hb0
  have HX0 : Hid _ := hx0
  have HH : Hid (HdAt w h) := hh
  have HG : Hid (Ground w) := hg
  unfold matH
  obtain ⟨cv', hcv⟩ : ∃ b, covers h.k h.p ck cp = b := ⟨_, rfl⟩
  have HC : Hid (∀ w, Ground w → Calls Tryz.prog 61 #[.int .i64 h.k, .string h.p, .int .i64 ck, .string cp] w fun e w' => e = .returned (.bool cv') ∧ Below w.heap.size w w') := fun w hg => by rw [← hcv]; exact covers_any h.k ck h.p cp w hg
  rw [hcv]
  clear hh hg hb0 hx0 hcv
  cases hd : decide (h.f < stamp) with
  | false =>
    go_enter Tryz.func32, Tryz.ntmps32
    go_wp2_with fail
    go_quiet (fail)
    go_wp2_with fail
    go_ret
    exact ⟨rfl, below_drewN HB0.out _⟩
  | true =>
    go_enter Tryz.func32, Tryz.ntmps32
    go_wp2_with fail
    go_region_held3 (fun w' => w'.cell? ⟨h.b, 2, none⟩ = some (.string h.p) ∧ w'.cell? ⟨h.b, 3, none⟩ = some (.int .i64 h.k) ∧ w'.cell? ⟨h.b, 4, none⟩ = some (.int .i64 h.f) ∧ w'.cell? ⟨w.heap.size, 0, none⟩ = some (.int .i64 ck) ∧ w'.cell? ⟨w.heap.size, 1, none⟩ = some (.string cp)) (first | go_keep | exact ⟨x2, x3, x4, b0, b1⟩)
      (first
        | (go_at_call 61; refine (HC.out _ (HG.out.below (below_drew HB0.out))).mono ?_; rintro e w1 ⟨rfl, hb1⟩
           clear x0 x1 x2 x3 x4 b0 b1 b2 b3
           have HB1 : Hid (Below w.heap.size w w1) := xtrans2 HB0.out (of_drew hb1)
           obtain ⟨b0, b1, b2, b3⟩ := cells_4 (kept_block (of_drew hb1) HX0.out)
           obtain ⟨x0, x1, x2, x3, x4⟩ := cells_5 (HH.out.below HB1.out)
           clear hb1))
    go_wp2_with fail
    go_ret
    exact ⟨rfl, HB1.out⟩
/-- A watch that is for a change lies on the way to it. -/
theorem covers_way {k ck : Int} {wp cp : ByteArray} (h : covers k wp ck cp = true) : (parse wp).2 <+: (parse cp).2 ∧ (parse wp).1 = 0 ∧ (parse cp).1 = 0 := by
  unfold covers at h
  simp only [Bool.and_eq_true] at h
  obtain ⟨⟨⟨h1, h2⟩, h3⟩, h4⟩ := h
  have p1 : (parse wp).1 = 0 := by simpa [isP] using h1
  have p2 : (parse cp).1 = 0 := by simpa [isP] using h3
  refine ⟨?_, p1, p2⟩
  have e1 : parse wp = (0, (parse wp).2) := by rw [← p1]
  have e2 : parse cp = (0, (parse cp).2) := by rw [← p2]
  have heq : eqB cp wp = true → (parse wp).2 <+: (parse cp).2 := fun he => by
    have : cp = wp := by
      unfold eqB at he
      rw [beq_iff_eq, ByteArray.toList_eq, ByteArray.toList_eq] at he
      exact ByteArray.ext (Array.ext' he)
    rw [this]
    exact List.prefix_refl _
  have hbe : belB wp cp = true → (parse wp).2 <+: (parse cp).2 := fun he => by
    unfold belB at he
    have hb := of_decide_eq_true he
    exact ⟨_, by rw [← hb.2]; exact List.take_append_drop _ _⟩
  have hch : childB wp cp = true → (parse wp).2 <+: (parse cp).2 := fun he => by
    unfold childB at he
    rw [e2] at he
    simp only [Bool.and_eq_true] at he
    obtain ⟨_, he⟩ := he
    rw [beq_iff_eq, ByteArray.toList_eq, ByteArray.toList_eq] at he
    have hw : placeB ((parse cp).2.take ((parse cp).2.length - 1)) = wp := ByteArray.ext (Array.ext' he)
    obtain ⟨hl, ha⟩ := parse_len e2
    have hp := parse_place (xs := (parse cp).2.take ((parse cp).2.length - 1)) (by rw [List.length_take]; omega) (by rw [List.all_eq_true] at ha ⊢; exact fun x hx => ha x (List.mem_of_mem_take hx))
    rw [hw] at hp
    rw [hp]
    exact List.take_prefix _ _
  unfold cov at h4
  split at h4
  · exact heq h4
  · split at h4
    · simp only [Bool.and_eq_true, Bool.or_eq_true] at h4
      exact h4.2.elim heq hch
    · split at h4
      · simp only [Bool.or_eq_true] at h4
        exact h4.elim heq hbe
      · cases h4
theorem part_perm {α : Type} (P : α → Bool) (l : List α) : (l.filter P ++ l.filter (fun x => !P x)).Perm l := by
  induction l with
  | nil => exact List.Perm.refl _
  | cons a r ih =>
    cases e : P a
    · rw [List.filter_cons, List.filter_cons, e]
      simp only [Bool.false_eq_true, if_false, Bool.not_false, if_true]
      exact List.perm_middle.trans (ih.cons a)
    · rw [List.filter_cons, List.filter_cons, e]
      simp only [if_true, Bool.not_true, Bool.false_eq_true, if_false, List.cons_append]
      exact ih.cons a
def onWay (p : Way) (ns : List ByteArray) (h : He) : Bool := decide (h.way.take p.length = p) && decide (p.length ≤ h.way.length) && decide (h.way.length ≤ (p ++ ns).length) && decide ((p ++ ns).take h.way.length = h.way)
theorem onWay_iff {p : Way} {ns : List ByteArray} {h : He} : onWay p ns h = true ↔ p <+: h.way ∧ h.way <+: p ++ ns := by
  unfold onWay
  simp only [Bool.and_eq_true, decide_eq_true_eq, List.prefix_iff_eq_take]
  constructor
  · rintro ⟨⟨⟨h1, h2⟩, h3⟩, h4⟩
    exact ⟨h1.symm, h4.symm⟩
  · rintro ⟨h1, h2⟩
    refine ⟨⟨⟨h1.symm, ?_⟩, ?_⟩, h2.symm⟩
    · have := congrArg List.length h1
      rw [List.length_take] at this
      omega
    · have := congrArg List.length h2
      rw [List.length_take] at this
      omega
theorem pre_one {p q : Way} {n : ByteArray} {r : List ByteArray} (h1 : p <+: q) (h2 : q <+: p ++ n :: r) (hne : q ≠ p) : p ++ [n] <+: q := by
  obtain ⟨t, rfl⟩ := h1
  rw [List.prefix_append_right_inj] at h2
  cases t with
  | nil => exact absurd (List.append_nil p) hne
  | cons m t =>
    rw [List.cons_prefix_cons] at h2
    obtain ⟨rfl, _⟩ := h2
    exact ⟨t, by simp⟩
/-- The watches on a way are just those whose own way is a part of it. -/
theorem along_perm {D : List Way} {hs : List He} (hcls : ∀ h ∈ hs, ∀ q, q <+: h.way → q ∈ D) (ns : List ByteArray) (p : Way) : (alongH D hs p ns).Perm (hs.filter (onWay p ns)) := by
  induction ns generalizing p with
  | nil =>
    have : hs.filter (onWay p []) = here hs p := by
      unfold here
      apply List.filter_congr
      intro x _
      rw [Bool.eq_iff_iff, onWay_iff, decide_eq_true_eq, List.append_nil]
      constructor
      · rintro ⟨h1, h2⟩
        exact h2.eq_of_length_le h1.length_le
      · intro h
        rw [h]
        exact ⟨List.prefix_refl _, List.prefix_refl _⟩
    rw [this]
    exact List.Perm.refl _
  | cons n r ih =>
    have h1 := (part_perm (fun h : He => decide (h.way = p)) (hs.filter (onWay p (n :: r)))).symm
    have e1 : (hs.filter (onWay p (n :: r))).filter (fun h => decide (h.way = p)) = here hs p := by
      rw [List.filter_filter]
      unfold here
      apply List.filter_congr
      intro x _
      rw [Bool.eq_iff_iff, Bool.and_eq_true, onWay_iff, decide_eq_true_eq]
      constructor
      · exact fun h => h.1
      · intro h
        refine ⟨h, ?_⟩
        rw [h]
        exact ⟨List.prefix_refl _, List.prefix_append _ _⟩
    have e2 : (hs.filter (onWay p (n :: r))).filter (fun h => !decide (h.way = p)) = hs.filter (onWay (p ++ [n]) r) := by
      rw [List.filter_filter]
      apply List.filter_congr
      intro x _
      rw [Bool.eq_iff_iff, Bool.and_eq_true, onWay_iff, onWay_iff, List.append_assoc]
      simp only [Bool.not_eq_true', decide_eq_false_iff_not, List.cons_append, List.nil_append]
      constructor
      · rintro ⟨h1, h2, h3⟩
        exact ⟨pre_one h2 h3 h1, h3⟩
      · rintro ⟨h1, h2⟩
        refine ⟨fun e => ?_, (List.prefix_append p [n]).trans h1, h2⟩
        have h9 := h1.length_le
        rw [e, List.length_append, List.length_singleton] at h9
        omega
    rw [e1, e2] at h1
    show (here hs p ++ if inD D (p ++ [n]) then alongH D hs (p ++ [n]) r else []).Perm _
    by_cases hin : p ++ [n] ∈ D
    · rw [if_pos (inD_iff.2 hin)]
      exact ((List.Perm.refl _).append (ih (p ++ [n]))).trans h1.symm
    · have e3 : hs.filter (onWay (p ++ [n]) r) = [] := by
        rw [List.filter_eq_nil_iff]
        intro x hx hw
        exact hin (hcls x hx _ (onWay_iff.1 hw).1)
      rw [inD_not hin]
      rw [e3] at h1
      exact h1.symm
/-- What Match says. -/
def matT (hs : List He) (stamp ck : Int) (cp : ByteArray) : List Tg := (hs.filter (matH stamp ck cp)).map (fun h => (h.s, h.i))
theorem match_perm {D : List Way} {hs : List He} (hcls : ∀ h ∈ hs, ∀ q, q <+: h.way → q ∈ D) {stamp ck : Int} {cp : ByteArray} (hp : (parse cp).1 = 0) : ((alongH D hs [] (parse cp).2).filter (matH stamp ck cp)).Perm (hs.filter (matH stamp ck cp)) := by
  have h1 := (along_perm hcls (parse cp).2 []).filter (matH stamp ck cp)
  have e : (hs.filter (onWay [] (parse cp).2)).filter (matH stamp ck cp) = hs.filter (matH stamp ck cp) := by
    rw [List.filter_filter]
    apply List.filter_congr
    intro x _
    rw [Bool.eq_iff_iff, Bool.and_eq_true]
    constructor
    · exact fun h => h.1
    · intro h
      refine ⟨h, onWay_iff.2 ⟨List.nil_prefix, ?_⟩⟩
      unfold matH at h
      rw [Bool.and_eq_true] at h
      exact (covers_way h.2).1
  rw [e] at h1
  exact h1
theorem match_none {hs : List He} {stamp ck : Int} {cp : ByteArray} (hp : (parse cp).1 ≠ 0) : matT hs stamp ck cp = [] := by
  unfold matT
  rw [List.map_eq_nil_iff, List.filter_eq_nil_iff]
  intro x _ h
  unfold matH at h
  rw [Bool.and_eq_true] at h
  exact hp (covers_way h.2).2.2
/-- What is sorted is what Match says. -/
theorem match_sorted {hs : List He} (ho : Ord hs) {stamp ck : Int} {cp : ByteArray} {us : List Tg} (hp : us.Perm (matT hs stamp ck cp)) (hs' : us.Pairwise (fun a b => befT b a = false)) : us = matT hs stamp ck cp := by
  refine List.Perm.eq_of_pairwise (le := fun a b => befT b a = false) (fun a b _ _ h1 h2 => ?_) hs' ?_ hp
  · unfold befT at h1 h2
    by_cases e : a.1 = b.1 ∧ a.2 = b.2
    · exact Prod.ext e.1 e.2
    · have := bef_total h2 e
      rw [h1] at this
      cases this
  · unfold matT
    rw [List.pairwise_map]
    exact (ho.filter _).imp (fun {a b} h => bef_asymm h)
end Go.Proofs.YtbblckcjedjbcaaGreatDoor
namespace Go.Proofs.YtbblckcjedjbcaaGreatDoor
open Go.RowKit Go.Maps
set_option linter.unusedVariables false
set_option linter.unusedSimpArgs false

theorem Tryz.infoT : (Tryz.prog.info? 34).map (fun i => (i.zero, i.size, i.bytes)) = some (some (.agg #[.int .i64 0, .int .i64 0]), 2, 16) := by kernel_rfl
theorem owns_lo {w : World} {B B' e s n : Nat} {v : Value} {xs : List Value} (h : w.ownsRow B e s v n xs) (hB : B' ≤ B) : w.ownsRow B' e s v n xs :=
  ⟨h.1, h.2.imp id (fun ⟨g, cap, cur, a, b, c⟩ => ⟨g, cap, cur, a, Nat.le_trans hB b, c⟩)⟩
/-- One tag more. -/
theorem wpList_appT {w : World} {ops : Array Oper} {rest : List Oper} {o : Oper} {act : Act} {Q : Exit → Act → World → Prop} (hgd : o.guard = none) (s x : Operand)
    (ho : o.op = .call { callee := .builtin .append, args := #[s, x], argTypes := #[37, 37] }) (base : Nat) (v : Value) (ts : List Tg) (hs : act.eval s = v) (hown : w.ownsRow base 34 2 v ts.length (tgCs ts))
    (gx : Nat) (t : Tg) (hx : act.eval x = .slice (some ⟨gx, 0, none⟩) 1 1) (hby : w.heap[gx]? = some (.cells #[.int .i64 t.1, .int .i64 t.2] 34 (0, 0))) (hlen : ts.length + 1 ≤ 1000000) (hB : base ≤ w.heap.size)
    (h : ∀ v' w', w'.ownsRow base 34 2 v' (ts ++ [t]).length (tgCs (ts ++ [t])) → Below base w w' → wpList Tryz.prog ops Q rest (act.put o.dst v') w') : wpList Tryz.prog ops Q (o :: rest) act w := by
  obtain ⟨i0, hi, hz0, hz1, hz2⟩ := info_parts Tryz.infoT
  refine wpList_append_own_at _ hgd s x 37 ho base 34 i0 _ 2 16 Tryz.underlying37 hi hz0 hz1 hz2 rfl (by decide) v ts.length (tgCs ts) hs hown ⟨gx, 0, none⟩ 1 1 (encT t) hx rfl (fun j u hu => ?_) (encT_one t) (by unfold maxLen; omega) (by omega) hB ?_
  · rw [addr_add, Nat.zero_add]
    match j with
    | 0 => simp [encT] at hu; subst hu; simp [World.cell?, hby]
    | 1 => simp [encT] at hu; subst hu; simp [World.cell?, hby]
    | j + 2 => simp [encT] at hu
  · intro v' w' ho' hg' _ hat'
    refine h v' w' (by rw [List.length_append, tgCs_append]; simp [tgCs]; simp [tgCs] at ho'; exact ho') ?_
    exact (Chg.grown hg').below hB (fun k hk e => (hown.lt k e).1)
set_option maxHeartbeats 3200000 in
theorem match_nil (stamp ck : Int) (cp cd : ByteArray) (cv : Int) (w : World) (hg : Ground w) :
    Calls Tryz.prog 13 #[.pointer none, .int .i64 stamp, chV ck cp cd cv] w fun e w' => e = .returned (.slice none 0 0) ∧ Below w.heap.size w w' := by
  have hb0 : Below w.heap.size w (w.alloc (.cells #[.int .i64 ck, .string cp, .string cd, .int .i64 cv] 24)) := (Below.refl _ _).alloc (Nat.le_refl _) _
  obtain ⟨b0, b1, b2, b3⟩ := cells_4 (heap_alloc_new w (.cells #[.int .i64 ck, .string cp, .string cd, .int .i64 cv] 24))
  have HPA : Hid _ := parse_any cp _ (hg.below hb0)
  have HB0 : Hid _ := hb0
  clear hg hb0
  go_enter Tryz.func13, Tryz.ntmps13
  go_wp2_with (first
    | (go_at_call 30; refine Calls.mono HPA.out ?_; rintro e w1 ⟨a1, c1, rfl, ho1, hb1⟩; (have HB1 : Hid (Below w.heap.size w w1) := xtrans2 HB0.out hb1); clear hb1 ho1 b0 b1 b2 b3)
    | fail)
  go_ret
  exact ⟨rfl, HB1.out⟩
set_option maxHeartbeats 3200000 in
theorem match_bad (B : Nat) (stamp ck : Int) (cp cd : ByteArray) (cv : Int) (w : World) (hg : Ground w) (hp : (parse cp).1 ≠ 0) :
    Calls Tryz.prog 13 #[ndV B, .int .i64 stamp, chV ck cp cd cv] w fun e w' => e = .returned (.slice none 0 0) ∧ Below w.heap.size w w' := by
  have hb0 : Below w.heap.size w (w.alloc (.cells #[.int .i64 ck, .string cp, .string cd, .int .i64 cv] 24)) := (Below.refl _ _).alloc (Nat.le_refl _) _
  obtain ⟨b0, b1, b2, b3⟩ := cells_4 (heap_alloc_new w (.cells #[.int .i64 ck, .string cp, .string cd, .int .i64 cv] 24))
  have HPA : Hid _ := parse_any cp _ (hg.below hb0)
  have HB0 : Hid _ := hb0
  unfold Parsed at HPA
  obtain ⟨pc, hpc⟩ : ∃ pc, (parse cp).1 = pc := ⟨_, rfl⟩
  rw [hpc] at hp HPA
  clear hg hb0 hpc
  go_enter Tryz.func13, Tryz.ntmps13
  go_wp2_with (first
    | (go_at_call 30; refine Calls.mono HPA.out ?_; rintro e w1 ⟨a1, c1, rfl, ho1, hb1⟩; (have HB1 : Hid (Below w.heap.size w w1) := xtrans2 HB0.out hb1); clear hb1 ho1 b0 b1 b2 b3)
    | fail)
  go_ret
  exact ⟨rfl, HB1.out⟩
def tagsOf (l : List He) : List Tg := l.map (fun h => (h.s, h.i))
theorem tags_next {m : List He} {j : Nat} {x : He} (hx : m[j]? = some x) (P : He → Bool) : tagsOf ((m.take (j + 1)).filter P) = tagsOf ((m.take j).filter P) ++ (if P x then [(x.s, x.i)] else []) := by
  have h1 : m.take (j + 1) = m.take j ++ [x] := by rw [List.take_add_one, hx]; rfl
  rw [h1, List.filter_append]
  unfold tagsOf
  rw [List.map_append]
  congr 1
  by_cases h : P x
  · simp [h]
  · simp [h]
theorem tagBox (w : World) (s i : Int) : (w.alloc (.cells #[.int .i64 s, .int .i64 i] 34)).heap[w.heap.size]? = some (.cells #[.int .i64 s, .int .i64 i] 34 (0, 0)) := heap_alloc_new _ _
set_option maxHeartbeats 32000000 in
set_option maxRecDepth 100000 in
theorem match_ok (B : Nat) (y : Lay) (D : List Way) (σ : Option Nat) (τ : Int → Value) (hs : List He) (stamp ck : Int) (cp cd : ByteArray) (cv : Int) (w : World) (hT : TrieAt w B y D σ τ hs) (hg : Ground w) (hlen : hs.length ≤ 1000) (hp : (parse cp).1 = 0) :
    Calls Tryz.prog 13 #[ndV B, .int .i64 stamp, chV ck cp cd cv] w fun e w' => ∃ v, e = .returned v ∧ w'.ownsRow w.heap.size 34 2 v (matT hs stamp ck cp).length (tgCs (matT hs stamp ck cp)) ∧ Below w.heap.size w w' := by
  have hb0 : Below w.heap.size w (w.alloc (.cells #[.int .i64 ck, .string cp, .string cd, .int .i64 cv] 24)) := (Below.refl _ _).alloc (Nat.le_refl _) _
  have hx0 : (w.alloc (.cells #[.int .i64 ck, .string cp, .string cd, .int .i64 cv] 24)).heap[w.heap.size]? = some (.cells #[.int .i64 ck, .string cp, .string cd, .int .i64 cv] 24 (0, 0)) := heap_alloc_new _ _
  obtain ⟨b0, b1, b2, b3⟩ := cells_4 hx0
  obtain ⟨ns, hns⟩ : ∃ ns, (parse cp).2 = ns := ⟨_, rfl⟩
  have hpn : parse cp = (0, ns) := by rw [← hp, ← hns]
  have HPA : Hid (Calls Tryz.prog 30 #[.string cp] (w.alloc (.cells #[.int .i64 ck, .string cp, .string cd, .int .i64 cv] 24)) fun e w' => ∃ a c, e = .returned (.tuple #[.slice a ns.length c, .int .i64 0]) ∧ NsAt w' a c ns ∧ Below w.heap.size w w' ∧ w'.heap[w.heap.size]? = some (.cells #[.int .i64 ck, .string cp, .string cd, .int .i64 cv] 24 (0, 0))) := by
    refine (parse_any cp _ (hg.below hb0)).mono ?_
    rintro e w' ⟨a, c, he, ho, hb⟩
    rw [hpn] at he ho
    exact ⟨a, c, he, NsAt.of ho, xtrans2 hb0 hb, kept_block hb hx0⟩
  have hnl : ns.length ≤ 6 := (parse_len hpn).1
  have HAL : Hid (∀ (w1 : World) (a : Option Addr) (c : Nat), Below w.heap.size w w1 → NsAt w1 a c ns → Calls Tryz.prog 31 #[ndV B, .slice a ns.length c, .slice none 0 0] w1 fun e w' => ∃ v', e = .returned v' ∧ w'.ownsRow w1.heap.size 91 1 v' (alongH D hs [] ns).length (ptrs (alongH D hs [] ns)) ∧ Below w1.heap.size w1 w') := fun w1 a c hb hn => by
    have h1 := along_any ns w1 y D hs [] a c w1.heap.size (.slice none 0 0) [] (hT.tr.below hb) hT.tr.root (way_small hpn) hn (fun k hk => (hT.tr.below hb).lt hk) (fun b cur hx o _ => lt_of_blk hx) (Nat.le_refl _) (World.ownsRow_nil _ _ _ _) (by simp only [List.length_nil, Nat.zero_add]; have : hs.length * (ns.length + 1) ≤ 1000 * 7 := Nat.mul_le_mul hlen (by omega); omega) (by omega)
    rw [hT.top] at h1
    exact h1
  have HPM : Hid ((tagsOf ((alongH D hs [] ns).filter (matH stamp ck cp))).Perm (matT hs stamp ck cp)) := by
    have := match_perm (D := D) (hs := hs) (stamp := stamp) (ck := ck) (cp := cp) (fun h hh q hq => (hT.cls q).2 (.inr ⟨h, hh, hq⟩)) hp
    rw [hns] at this
    exact this.map _
  obtain ⟨m, hm⟩ : ∃ m, alongH D hs [] ns = m := ⟨_, rfl⟩
  have HMH : Hid (∀ x ∈ m, x ∈ hs) := fun x hx => by
    have := (along_perm (D := D) (hs := hs) (fun h hh q hq => (hT.cls q).2 (.inr ⟨h, hh, hq⟩)) ns []).mem_iff.1 (by rw [hm]; exact hx)
    exact (List.mem_filter.1 this).1
  have HML : Hid (m.length ≤ 7000) := by
    have := alongH_len D hs ns []
    rw [hm] at this
    have h2 : hs.length * (ns.length + 1) ≤ 1000 * 7 := Nat.mul_le_mul hlen (by omega)
    show _ ≤ _
    omega
  rw [hm] at HAL HPM
  have HT : Hid _ := hT
  have HG : Hid _ := hg
  have HORD : Hid (Ord hs) := hT.tr.ord
  have HHL : Hid (hs.length ≤ 1000) := hlen
  have hlm : (m.length : Int) ≤ 9223372036854775807 := by have := HML.out; omega
  clear hT hg hlen hp hb0 hx0 hns hpn hnl hm
  go_enter Tryz.func13, Tryz.ntmps13
  go_wp2_with (first
    | (go_at_call 30; refine Calls.mono HPA.out ?_; rintro e w1 ⟨a1, c1, rfl, hn1, hb1, hx1⟩
       have HB1 : Hid (Below w.heap.size w w1) := hb1
       have HN1 : Hid _ := hn1
       have HX1 : Hid _ := hx1
       clear hb1 hn1 hx1 b0 b1 b2 b3)
    | (go_at_call 31; refine Calls.mono (HAL.out w1 a1 c1 HB1.out HN1.out) ?_; rintro e w2 ⟨v2, rfl, ho2, hb2⟩
       have HB2 : Hid (Below w.heap.size w w2) := xtrans2 HB1.out hb2
       have HX2 : Hid _ := kept_block hb2 HX1.out
       obtain ⟨a2, c2, hv2⟩ := owns_shape ho2
       subst hv2
       have HL2 : Hid (Hl w2 a2 c2 m) := ⟨owns_lo ho2 (Nat.zero_le _), fun x hx => (HT.out.tr.held x (HMH.out x hx)).below HB2.out⟩
       clear ho2 hb2)
    | fail)
  go_loopw [9, 30] (fun vt vi wr => ∃ j : Nat, vi = .int .i64 j ∧ j ≤ m.length ∧ Hid (wr.ownsRow w2.heap.size 34 2 vt (tagsOf ((m.take j).filter (matH stamp ck cp))).length (tgCs (tagsOf ((m.take j).filter (matH stamp ck cp))))) ∧ Hid (Below w2.heap.size w2 wr)) (fun _ vi _ => m.length - (intOf vi).toNat)
  case atStart => exact ⟨0, rfl, Nat.zero_le _, World.ownsRow_nil _ _ _ _, Below.refl _ _⟩
  case round =>
    obtain ⟨j, rfl, hj, HO, HB⟩ := hrel
    by_cases hlt : j < m.length
    · have hlt' : (j : Int) < (m.length : Int) := by omega
      obtain ⟨x, hx⟩ : ∃ x, m[j]? = some x := ⟨m[j], List.getElem?_eq_getElem hlt⟩
      obtain ⟨g, rfl, p0, hh⟩ := (HL2.out.below HB.out).at hx
      obtain ⟨b0, b1, b2, b3⟩ := cells_4 (kept_block HB.out HX2.out)
      have HWR : Hid (Below w.heap.size w wr) := xtrans2 HB2.out HB.out
      have HMT : Hid _ := matches_any x stamp ck cp cd cv wr hh (HG.out.below HWR.out)
      have HNX : Hid _ := tags_next hx (matH stamp ck cp)
      have HHX : Hid (HdAt wr x) := hh
      obtain ⟨mb, hmb⟩ : ∃ mb, matH stamp ck cp x = mb := ⟨_, rfl⟩
      rw [hmb] at HMT HNX
      clear hx hh hmb
      cases mb with
      | false =>
        go_wp2_with (first
          | (go_at_call 32; refine Calls.mono HMT.out ?_; rintro e w3 ⟨rfl, hb3⟩
             have HB3 : Hid (Below w2.heap.size w2 w3) := xtrans2 HB.out hb3
             have HO3 : Hid _ := owns_below HO.out hb3
             clear hb3 b0 b1 b2 b3 p0)
          | fail)
        go_roundw
        case rel =>
          refine ⟨j + 1, by go_num, by omega, ?_, HB3.out⟩
          have e := HNX.out
          simp only [Bool.false_eq_true, if_false, List.append_nil] at e
          show World.ownsRow _ _ _ _ _ _ _
          rw [e]
          exact HO3.out
        case measure => simp [intOf]; omega
      | true =>
        have HLN : Hid ((tagsOf ((m.take j).filter (matH stamp ck cp))).length + 1 ≤ 1000000) := by
          have h1 : (tagsOf ((m.take j).filter (matH stamp ck cp))).length ≤ (m.take j).length := by unfold tagsOf; rw [List.length_map]; exact List.length_filter_le _ _
          rw [List.length_take] at h1
          have := HML.out
          show _ ≤ _
          omega
        go_wp2_with (first
          | (go_at_call 32; refine Calls.mono HMT.out ?_; rintro e w3 ⟨rfl, hb3⟩
             have HB3 : Hid (Below w2.heap.size w2 w3) := xtrans2 HB.out hb3
             have HO3 : Hid _ := owns_below HO.out hb3
             have HH3 : Hid (HdAt w3 x) := HHX.out.below hb3
             clear hb3 b0 b1 b2 b3 p0)
          | (go_at_call 33; refine (tag_any x w3 HH3.out).mono ?_; rintro e w4 ⟨rfl, hb4⟩
             have HB4 : Hid (Below w2.heap.size w2 w4) := xtrans2 HB3.out hb4
             have HO4 : Hid _ := owns_below HO3.out hb4
             clear hb4)
          | (at_builtin; refine wpList_appT rfl _ _ rfl w2.heap.size _ (tagsOf ((m.take j).filter (matH stamp ck cp))) rfl (owns_below HO4.out ((Below.refl _ _).alloc (Nat.le_refl _) _)) w4.heap.size (x.s, x.i) rfl (tagBox w4 x.s x.i) HLN.out (by have := HB4.out.size; simp; omega) ?_
             intro v5 w5 ho5 hb5
             have HO5 : Hid _ := ho5
             have HB5 : Hid (Below w2.heap.size w2 w5) := (HB4.out.alloc HB4.out.size _).trans hb5
             clear ho5 hb5)
          | fail)
        go_roundw
        case rel =>
          refine ⟨j + 1, by go_num, by omega, ?_, HB5.out⟩
          have e := HNX.out
          simp only [if_true] at e
          show World.ownsRow _ _ _ _ _ _ _
          rw [e]
          exact HO5.out
        case measure => simp [intOf]; omega
    · obtain rfl : j = m.length := by omega
      have hge : ¬ ((m.length : Int) < (m.length : Int)) := by omega
      have HO' : Hid (wr.ownsRow w2.heap.size 34 2 u9 (tagsOf (m.filter (matH stamp ck cp))).length (tgCs (tagsOf (m.filter (matH stamp ck cp))))) := by
        have := HO.out
        rw [List.take_length] at this
        exact this
      obtain ⟨ts, hts⟩ : ∃ ts, tagsOf (m.filter (matH stamp ck cp)) = ts := ⟨_, rfl⟩
      rw [hts] at HO' HPM
      clear HO hts
      have HTL : Hid (ts.length ≤ 100000) := by
        have h1 := HPM.out.length_eq
        have h2 : (matT hs stamp ck cp).length ≤ hs.length := by unfold matT; rw [List.length_map]; exact List.length_filter_le _ _
        show _ ≤ _
        have := HHL.out
        omega
      have HWR : Hid (Below w.heap.size w wr) := xtrans2 HB2.out HB.out
      have HSZ : Hid (w.heap.size ≤ w2.heap.size) := HB2.out.size
      rcases HO'.out.2 with ⟨hv, h0⟩ | ⟨g9, cap9, cur9, hv, _⟩
      · subst hv
        have hn : ts = [] := by simpa using h0
        have HMN : Hid (matT hs stamp ck cp = []) := by
          have := HPM.out
          rw [hn] at this
          exact this.nil_eq.symm
        clear h0 hn HO' HPM HTL
        go_wp2_with (first | (go_at_call 34; refine (sortNil wr).mono ?_; rintro e w6 ⟨rfl, hb6⟩; (have HB6 : Hid (Below w.heap.size w w6) := xtrans2 HWR.out hb6); clear hb6) | fail)
        go_ret
        refine ⟨_, rfl, ?_, HB6.out⟩
        rw [HMN.out]
        exact World.ownsRow_nil _ _ _ _
      · subst hv
        have HSO : Hid _ := sortTags w2.heap.size g9 cap9 ts wr HO'.out HTL.out
        have HGB : Hid (w2.heap.size ≤ g9) := (HO'.out.lt g9 rfl).1
        clear HO' HTL
        go_wp2_with (first
          | (go_at_call 34; refine Calls.mono HSO.out ?_; rintro e w6 ⟨rfl, us, hp6, hs6, ho6, hg6⟩
             have HP6 : Hid _ := hp6
             have HS6 : Hid _ := hs6
             have HO6 : Hid _ := ho6
             have HB6 : Hid (Below w.heap.size w w6) := HWR.out.grown hg6 HWR.out.size (fun k hk => by cases hk; exact Nat.le_trans HSZ.out HGB.out)
             clear hp6 hs6 ho6 hg6)
          | fail)
        go_ret
        have e := match_sorted HORD.out (HP6.out.trans HPM.out) HS6.out
        refine ⟨_, rfl, ?_, HB6.out⟩
        have h1 := HO6.out
        rw [e, ← HP6.out.length_eq, e] at h1
        rw [← e, HP6.out.length_eq] at h1 ⊢
        exact owns_lo h1 HSZ.out
end Go.Proofs.YtbblckcjedjbcaaGreatDoor
