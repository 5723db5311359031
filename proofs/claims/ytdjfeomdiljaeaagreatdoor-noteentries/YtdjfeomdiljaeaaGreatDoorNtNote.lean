import Derived.Test.YtdjfeomdiljaeaaGreatDoorNtChk3
import Derived.Test.YtdjfeomdiljaeaaGreatDoorNtRp
import Derived.Test.YtdjfeomdiljaeaaGreatDoorNtBareZ
import Derived.Deep.WholeRow
import Derived.Laws.EntriesVeiled
namespace Go.Proofs.YtdjfeomdiljaeaaGreatDoor
open Go.RowKit
set_option linter.unusedVariables false
set_option linter.unusedSimpArgs false

set_option maxHeartbeats 3200000 in
theorem Reply_ck (b : Nat) (N : NoN) (w : World) (hN : NB w b N) (hA : N.At w) (hg : Ground w) : Calls Tryz.prog 132 #[.pointer (some ⟨b, 0, none⟩)] w (CK (nums [N.rst, N.rcd, N.rat] ∧ (((0 : Int) ≤ (N.res.length : Int) ∧ (N.res.length : Int) ≤ 4) ∧ ∀ x ∈ N.res, RsN.Ok x)) w) := by
  obtain ⟨ok, hok⟩ : ∃ ok : Prop, (nums [N.rst, N.rcd, N.rat] ∧ (((0 : Int) ≤ (N.res.length : Int) ∧ (N.res.length : Int) ≤ 4) ∧ ∀ x ∈ N.res, RsN.Ok x) : Prop) = ok := ⟨_, rfl⟩
  have HOK : Hid (ok = (nums [N.rst, N.rcd, N.rat] ∧ (((0 : Int) ≤ (N.res.length : Int) ∧ (N.res.length : Int) ≤ 4) ∧ ∀ x ∈ N.res, RsN.Ok x))) := hok.symm
  rw [hok]
  clear hok
  have HG : Hid (Ground w) := hg
  have HA : Hid (N.At w) := hA
  have HE0 : Hid (NB w b N) := hN
  have HB0 : Hid (Below w.heap.size w w) := Below.refl _ _
  clear hg hA hN
  go_enter Tryz.func132, Tryz.ntmps132
  have c0 := HE0.out.cell (i := 13) (v := .int .i64 N.rst) rfl
  have c1 := HE0.out.cell (i := 14) (v := .int .i64 N.rcd) rfl
  have c2 := HE0.out.cell (i := 15) (v := .int .i64 N.rat) rfl
  have c3 := HE0.out.cell (i := 16) (v := .slice N.resA N.res.length N.resC) rfl
  go_upto_region 1 with fail
  obtain ⟨w0, hw0⟩ : ∃ w0, w.alloc (.cells #[.int .i64 N.rst, .int .i64 N.rcd, .int .i64 N.rat, .slice N.resA N.res.length N.resC] 46) = w0 := ⟨_, rfl⟩
  have HBx : Hid (Below w.heap.size w w0) := by rw [← hw0]; exact (Below.refl _ _).alloc (Nat.le_refl _) _
  have HF0 : Hid (w0.heap[w.heap.size]? = some (.cells #[.int .i64 N.rst, .int .i64 N.rcd, .int .i64 N.rat, .slice N.resA N.res.length N.resC] 46 (0, 0))) := by show _ = _; rw [← hw0]; exact heap_alloc_new _ _
  rw [hw0]
  clear hw0 HB0 c0 c1 c2 c3
  have HB0 : Hid (Below w.heap.size w w0) := HBx.out
  clear HBx
  obtain ⟨d0, d1, d2, d3⟩ := cells_4N HF0.out
  go_wp2_with (first
    | (have hq := HB1; clear hq; go_at_call 185; refine Calls.mono (listRs 0 4 N.resA N.resC N.res RsN.Ok _ (fun x hx W hb => Rs_ck x W (HG.out.below (below_of HB1.out hb)) ((HA.out.resS x hx).below (below_of HB1.out hb))) (HA.out.res.below HB1.out)) ?_; rintro e w2 ⟨⟨rfl, h⟩ | ⟨rfl, h⟩, hb⟩
       rotate_left
       · exact ⟨rfl, .inr ⟨rfl, by rw [HOK.out]; exact fun g => h (g.2)⟩, xtransN HB1.out hb⟩
       have H1 : Hid ((((0 : Int) ≤ (N.res.length : Int) ∧ (N.res.length : Int) ≤ 4) ∧ ∀ x ∈ N.res, RsN.Ok x)) := h
       have HB2 : Hid (Below w.heap.size w w2) := xtransN HB1.out hb
       have HE2 : Hid (NB w2 b N) := kept_block HB2.out HE0.out
       have HF2 : Hid (w2.heap[w.heap.size]? = some (.cells #[.int .i64 N.rst, .int .i64 N.rcd, .int .i64 N.rat, .slice N.resA N.res.length N.resC] 46 (0, 0))) := kept_block (below_of (Below.refl _ _) hb) HF1.out
       clear d0 d1 d2 d3
       obtain ⟨d0, d1, d2, d3⟩ := cells_4N HF2.out
       clear h hb)
    | (have hq := HB0; clear hq; go_at_call 105; refine Calls.mono (numbers_ck _ _ [N.rst, N.rcd, N.rat] _ (rowC_new _ [N.rst, N.rcd, N.rat] (show 3 ≤ maxLen by decide))) ?_; rintro e w1 ⟨⟨rfl, h⟩ | ⟨rfl, h⟩, hb⟩
       rotate_left
       · exact ⟨rfl, .inr ⟨rfl, by rw [HOK.out]; exact fun g => h (g.1)⟩, xtransN (ext_alloc HB0.out _) hb⟩
       have H0 : Hid (nums [N.rst, N.rcd, N.rat]) := h
       have HB1 : Hid (Below w.heap.size w w1) := xtransN (ext_alloc HB0.out _) hb
       have HE1 : Hid (NB w1 b N) := kept_block HB1.out HE0.out
       have HF1 : Hid (w1.heap[w.heap.size]? = some (.cells #[.int .i64 N.rst, .int .i64 N.rcd, .int .i64 N.rat, .slice N.resA N.res.length N.resC] 46 (0, 0))) := kept_block (below_of (ext_alloc (Below.refl _ _) _) hb) HF0.out
       clear d0 d1 d2 d3
       obtain ⟨d0, d1, d2, d3⟩ := cells_4N HF1.out
       clear h hb)
    | fail)
  all_goals exact bodyPost_end (results_none rfl _ _ _) rfl ⟨.inl ⟨rfl, by rw [HOK.out]; exact ⟨H0.out, H1.out⟩⟩, HB2.out⟩
set_option maxHeartbeats 3200000 in
theorem Items_ck (b : Nat) (N : NoN) (w : World) (hN : NB w b N) (hA : N.At w) (hg : Ground w) : Calls Tryz.prog 156 #[.pointer (some ⟨b, 0, none⟩)] w (CK ((((1 : Int) ≤ (N.items.length : Int) ∧ (N.items.length : Int) ≤ 8) ∧ ∀ x ∈ N.items, ItN.Ok x) ∧ Rise (N.items.map fun x => x.st) ∧ (∀ (j : Nat) (x : ItN), N.items[j + 1]? = some x → x.m = false)) w) := by
  obtain ⟨ok, hok⟩ : ∃ ok : Prop, ((((1 : Int) ≤ (N.items.length : Int) ∧ (N.items.length : Int) ≤ 8) ∧ ∀ x ∈ N.items, ItN.Ok x) ∧ Rise (N.items.map fun x => x.st) ∧ (∀ (j : Nat) (x : ItN), N.items[j + 1]? = some x → x.m = false) : Prop) = ok := ⟨_, rfl⟩
  have HOK : Hid (ok = ((((1 : Int) ≤ (N.items.length : Int) ∧ (N.items.length : Int) ≤ 8) ∧ ∀ x ∈ N.items, ItN.Ok x) ∧ Rise (N.items.map fun x => x.st) ∧ (∀ (j : Nat) (x : ItN), N.items[j + 1]? = some x → x.m = false))) := hok.symm
  rw [hok]
  clear hok
  have HG : Hid (Ground w) := hg
  have HA : Hid (N.At w) := hA
  have HE0 : Hid (NB w b N) := hN
  have HB0 : Hid (Below w.heap.size w w) := Below.refl _ _
  clear hg hA hN
  go_enter Tryz.func156, Tryz.ntmps156
  have c0 := HE0.out.cell (i := 19) (v := .slice N.itemsA N.items.length N.itemsC) rfl
  go_wp2_with (first
    | (have hq := HB1; clear hq; go_at_call 230; refine Calls.mono (riseIt N.itemsA N.itemsC N.items _ (HA.out.items.below HB1.out)) ?_; rintro e w2 ⟨⟨rfl, h⟩ | ⟨rfl, h⟩, hb⟩
       rotate_left
       · exact ⟨rfl, .inr ⟨rfl, by rw [HOK.out]; exact fun g => h (g.2.1)⟩, xtransN HB1.out hb⟩
       have H1 : Hid (Rise (N.items.map fun x => x.st)) := h
       have HB2 : Hid (Below w.heap.size w w2) := xtransN HB1.out hb
       have HE2 : Hid (NB w2 b N) := kept_block HB2.out HE0.out
       have hl1 : (1 : Int) ≤ (N.items.length : Int) := H0.out.1.1
       clear h hb c0
       have c0 := HE2.out.cell (i := 19) (v := .slice N.itemsA N.items.length N.itemsC) rfl)
    | (have hq := HB0; clear hq; go_at_call 228; refine Calls.mono (listIt 1 8 N.itemsA N.itemsC N.items ItN.Ok _ (fun x hx W hb => It_ck x W (HG.out.below (below_of HB0.out hb)) ((HA.out.itemsS x hx).below (below_of HB0.out hb))) (HA.out.items.below HB0.out)) ?_; rintro e w1 ⟨⟨rfl, h⟩ | ⟨rfl, h⟩, hb⟩
       rotate_left
       · exact ⟨rfl, .inr ⟨rfl, by rw [HOK.out]; exact fun g => h (g.1)⟩, xtransN HB0.out hb⟩
       have H0 : Hid ((((1 : Int) ≤ (N.items.length : Int) ∧ (N.items.length : Int) ≤ 8) ∧ ∀ x ∈ N.items, ItN.Ok x)) := h
       have HB1 : Hid (Below w.heap.size w w1) := xtransN HB0.out hb
       have HE1 : Hid (NB w1 b N) := kept_block HB1.out HE0.out
       have hl1 : (1 : Int) ≤ (N.items.length : Int) := H0.out.1.1
       clear h hb c0
       have c0 := HE1.out.cell (i := 19) (v := .slice N.itemsA N.items.length N.itemsC) rfl)
    | fail)
  · have hm0 : N.items.length = 1 := by have := HA.out.itemsL; omega
    have hlt' : ¬ (0 : Int) < ((N.items.length - 1 : Nat) : Int) := by omega
    have H2 : Hid (∀ (j : Nat) (x : ItN), N.items[j + 1]? = some x → x.m = false) := fun j x hx => by
      have h1 := (List.getElem?_eq_some_iff.1 hx).1
      omega
    clear hm0
    go_loopw [20] (fun iv wr => iv = .int .i64 0 ∧ Hid (Below w.heap.size w wr)) (fun iv _ => 1)
    case atStart => exact ⟨rfl, HB2.out⟩
    case round =>
      obtain ⟨rfl, HBr⟩ := hrel
      go_wp2_with fail
      exact bodyPost_end (results_none rfl _ _ _) rfl ⟨.inl ⟨rfl, by rw [HOK.out]; exact ⟨H0.out, H1.out, H2.out⟩⟩, HBr.out⟩
  · obtain ⟨m, hm⟩ : ∃ m, N.items.length = m + 1 := ⟨N.items.length - 1, by omega⟩
    have HM : Hid (N.items.length = m + 1) := hm
    have hlen := (HA.out.items).len
    have hm1 : N.items.length - 1 = m := by omega
    obtain ⟨A, hA⟩ : ∃ A, Option.map (fun x : Addr => ({ block := x.block, off := x.off + 5 } : Addr)) N.itemsA = A := ⟨_, rfl⟩
    have HAT : Hid (∀ W, Below w.heap.size w W → ∀ (q : Nat) (x : ItN), N.items[q + 1]? = some x → ∃ b0 o0, A = some ⟨b0, o0, none⟩ ∧ W.cell? ⟨b0, o0 + q * 5, none⟩ = some (.int .i64 x.st) ∧ W.cell? ⟨b0, o0 + q * 5 + 1, none⟩ = some (.int .i64 x.af) ∧ W.cell? ⟨b0, o0 + q * 5 + 2, none⟩ = some (.bool x.m) ∧ W.cell? ⟨b0, o0 + q * 5 + 3, none⟩ = some (.slice x.chsA x.chs.length x.chsC) ∧ W.cell? ⟨b0, o0 + q * 5 + 4, none⟩ = some (.slice x.partsA x.parts.length x.partsC)) := fun W hb q x hx => by
      obtain ⟨b0, o0, e0, n0, n1, n2, n3, n4⟩ := (HA.out.items.below hb).at5 (map_at hx)
      refine ⟨b0, o0 + 5, by rw [← hA, e0]; rfl, ?_, ?_, ?_, ?_, ?_⟩
      · rw [show o0 + 5 + q * 5 = o0 + (q + 1) * 5 by omega]; exact n0
      · rw [show o0 + 5 + q * 5 + 1 = o0 + (q + 1) * 5 + 1 by omega]; exact n1
      · rw [show o0 + 5 + q * 5 + 2 = o0 + (q + 1) * 5 + 2 by omega]; exact n2
      · rw [show o0 + 5 + q * 5 + 3 = o0 + (q + 1) * 5 + 3 by omega]; exact n3
      · rw [show o0 + 5 + q * 5 + 4 = o0 + (q + 1) * 5 + 4 by omega]; exact n4
    rw [hA, hm1]
    have hmb : (m : Int) ≤ 9223372036854775806 := by omega
    clear hA hm1 hm hlen hl1
    go_loopw [20] (fun iv wr => ∃ q : Nat, iv = .int .i64 q ∧ q ≤ m ∧ Hid (∀ j x, j < q → N.items[j + 1]? = some x → x.m = false) ∧ Hid (Below w.heap.size w wr)) (fun iv _ => m - (intOf iv).toNat)
    case atStart => exact ⟨0, rfl, Nat.zero_le _, fun j x h => absurd h (by omega), HB2.out⟩
    case round =>
      obtain ⟨q, rfl, hqm, HDo, HBr⟩ := hrel
      by_cases hlt : q < m
      · have hlt' : (q : Int) < (m : Int) := by omega
        obtain ⟨x, hx⟩ : ∃ x, N.items[q + 1]? = some x := ⟨N.items[q + 1]'(by have := HM.out; omega), List.getElem?_eq_getElem _⟩
        have HX : Hid (N.items[q + 1]? = some x) := hx
        obtain ⟨b0, o0, rfl, n0, n1, n2, n3, n4⟩ := HAT.out wr HBr.out q x hx
        clear hx
        obtain ⟨xm, hxm⟩ : ∃ xm, x.m = xm := ⟨_, rfl⟩
        have HXM : Hid (x.m = xm) := hxm
        rw [hxm] at n2
        cases xm with
        | false =>
          go_wp2_with (first
            | (go_at_call 70; refine Calls.mono (must_yes _) ?_; rintro e w3 ⟨rfl, rfl⟩)
            | fail)
          go_roundw
          case rel => exact ⟨q + 1, by go_num, by omega, fun j y hj hy => (by
              by_cases e : j = q
              · subst e
                rw [HX.out] at hy
                cases hy
                exact HXM.out
              · exact HDo.out j y (by omega) hy), by repeat (first | exact HBr.out | refine ext_set ?_ (by first | exact Nat.le_refl _ | exact HBr.out.size) | refine ext_alloc ?_ _)⟩
          case measure => simp [intOf]; omega
        | true =>
          go_wp2_with (first
            | (go_at_call 70; refine Calls.mono (must_no _) ?_; rintro e w3 ⟨rfl, rfl⟩)
            | fail)
          exact ⟨rfl, .inr ⟨rfl, by rw [HOK.out]; exact fun g => by have := g.2.2 q x HX.out; rw [HXM.out] at this; cases this⟩, by repeat (first | exact HBr.out | refine ext_set ?_ (by first | exact Nat.le_refl _ | exact HBr.out.size) | refine ext_alloc ?_ _)⟩
      · have hlt' : ¬ (q : Int) < (m : Int) := by omega
        go_wp2_with fail
        exact bodyPost_end (results_none rfl _ _ _) rfl ⟨.inl ⟨rfl, by rw [HOK.out]; exact ⟨H0.out, H1.out, fun j x hx => HDo.out j x (by have h1 := (List.getElem?_eq_some_iff.1 hx).1; have h2 := HM.out; omega) hx⟩⟩, HBr.out⟩

end Go.Proofs.YtdjfeomdiljaeaaGreatDoor
namespace Go.Proofs.YtdjfeomdiljaeaaGreatDoor
open Go.RowKit
set_option linter.unusedVariables false
set_option linter.unusedSimpArgs false

abbrev WrT : Type := (NoN → List Int) × (NoN → Prop)
def wrTbl : List (List UInt8 × WrT) := [([78, 117, 109], fun N => nmL N.num, fun N => inN N.num), ([83, 101, 115, 115, 105, 111, 110], fun N => nmL N.se, fun N => inN N.se), ([67, 111, 110, 110], fun N => nmL N.cn, fun N => inN N.cn), ([82, 101, 113, 117, 101, 115, 116], fun N => nmL N.rq, fun N => inN N.rq), ([83, 116, 97, 109, 112], fun N => nmL N.st, fun N => inN N.st), ([79, 102], fun N => nmL N.of, fun N => inN N.of), ([67, 111, 109, 109, 105, 116], fun N => nmL N.cm, fun N => inN N.cm), ([79, 112, 115], fun N => lsL opL N.ops, fun N => N.ops.length ≤ 1000000 ∧ ∀ x ∈ N.ops, OpN.Ok x)]
/-- What the field of that name writes, and of which notes this is said. -/
def wrT (nm : ByteArray) : Option WrT := (wrTbl.find? fun t => t.1 == nm.data.toList).map fun t => t.2
def WrC (w : World) (F : Nat) (C : Array Value) (t : WrT) : Prop :=
  (∀ (A : Array Value) (W : World), (callFunc F A).run Tryz.prog W = .ok (.enter F A) W) ∧
  ∀ (W w0 : World) (b bw : Nat) (v : Value) (xs : List Int) (N : NoN), Below w.heap.size w W → w.heap.size ≤ bw → NB W b N → b < bw → N.At w0 → Bk w0 W bw → WrAt 67 W bw v xs → t.2 N → xs.length + (t.1 N).length ≤ 1000000 →
    Calls Tryz.prog F (#[.pointer (some ⟨bw, 0, none⟩), .pointer (some ⟨b, 0, none⟩)] ++ C) W (WrEnd 67 bw v xs (t.1 N) W)
theorem WrC.below {w w' : World} {F : Nat} {C : Array Value} {t : WrT} (h : WrC w F C t) (hb : Below w.heap.size w w') : WrC w' F C t :=
  ⟨h.1, fun W w0 b bw v xs N k hbw => h.2 W w0 b bw v xs N (hb.trans (k.mono hb.size)) (Nat.le_trans hb.size hbw)⟩
def nmVw : ByteArray := ⟨#[86, 105, 101, 119]⟩
end Go.Proofs.YtdjfeomdiljaeaaGreatDoor
namespace Go.Proofs.YtdjfeomdiljaeaaGreatDoor
open Go.RowKit
set_option linter.unusedVariables false
set_option linter.unusedSimpArgs false

/-- A field's row. -/
structure RwN where
  nm : ByteArray
  cF : Nat
  cC : Array Value
  eF : Nat
  eC : Array Value
  wF : Nat
  wC : Array Value
  rF : Nat
  rC : Array Value
abbrev fnV (F : Nat) (C : Array Value) : Value := .func (.func F) #[] C
abbrev RwN.cl (x : RwN) : List Value := [.string x.nm, .func (.func x.cF) #[] x.cC, .func (.func x.eF) #[] x.eC, .func (.func x.wF) #[] x.wC, .func (.func x.rF) #[] x.rC]
/-- The view's row. -/
def VwSh (w : World) (x : RwN) : Prop := x.nm = nmVw ∧ x.cF = 127 ∧ x.cC = #[] ∧ x.eF = 179 ∧ x.rF = 181 ∧ ∃ s t : Nat, x.eC = #[.pointer (some ⟨s, 0, none⟩)] ∧ x.rC = #[.pointer (some ⟨t, 0, none⟩), .pointer (some ⟨s, 0, none⟩)] ∧ w.cell? ⟨s, 0, none⟩ = some (.func (.func 126) #[] #[]) ∧ w.cell? ⟨t, 0, none⟩ = some (.func (.func 129) #[] #[])
theorem VwSh.below {w w' : World} {x : RwN} (h : VwSh w x) (hb : Below w.heap.size w w') : VwSh w' x := by
  obtain ⟨h1, h2, h5, h6, h7, s, t, h8, h9, h3, h4⟩ := h
  exact ⟨h1, h2, h5, h6, h7, s, t, h8, h9, by rw [hb.cell (p := ⟨s, 0, none⟩) (World.block_lt_of_cell? _ _ h3)]; exact h3, by rw [hb.cell (p := ⟨t, 0, none⟩) (World.block_lt_of_cell? _ _ h4)]; exact h4⟩
/-- What a row's check and empty do. -/
structure RwN.Ck (w : World) (x : RwN) (P : NoN → Prop) (E : NoN → NoN) : Prop where
  inC : ∀ (A : Array Value) (W : World), (callFunc x.cF A).run Tryz.prog W = .ok (.enter x.cF A) W
  inE : ∀ (A : Array Value) (W : World), (callFunc x.eF A).run Tryz.prog W = .ok (.enter x.eF A) W
  chk : ∀ (W : World) (b : Nat) (N : NoN), Below w.heap.size w W → NB W b N → N.At W → Ground W → Calls Tryz.prog x.cF (#[.pointer (some ⟨b, 0, none⟩)] ++ x.cC) W (CK (P N) W)
  emp : ∀ (W : World) (b : Nat) (N : NoN), Below w.heap.size w W → NB W b N → w.heap.size ≤ b → Calls Tryz.prog x.eF (#[.pointer (some ⟨b, 0, none⟩)] ++ x.eC) W fun e W' => e = .returned (.tuple #[]) ∧ NB W' b (E N) ∧ Chg W W' (fun k => k = b)
  wr : ∀ t, wrT x.nm = some t → WrC w x.wF x.wC t
  vw : x.nm = nmVw → VwSh w x
theorem one_cl (N : NoN) : ∀ v ∈ N.cl, v.oneCell' = true := by
  intro v hv
  simp only [NoN.cl, List.mem_cons, List.not_mem_nil, or_false] at hv
  rcases hv with rfl | rfl | rfl | rfl | rfl | rfl | rfl | rfl | rfl | rfl | rfl | rfl | rfl | rfl | rfl | rfl | rfl | rfl | rfl | rfl | rfl <;> rfl
set_option maxHeartbeats 6400000 in
set_option maxRecDepth 100000 in
theorem note_ck (b : Nat) (N : NoN) (fa : Option Addr) (fc : Nat) (L : List (RwN × (NoN → Prop) × (NoN → NoN))) (w : World) (hN : NB w b N) (hA : N.At w) (hg : Ground w) (hL : RowC w fa 5 (L.map fun x => x.1.cl)) (hF : ∀ x ∈ L, x.1.Ck w x.2.1 x.2.2) :
    Calls Tryz.prog 40 #[.pointer (some ⟨b, 0, none⟩), .slice fa L.length fc] w (CK ((∀ x ∈ L, x.2.1 N) ∧ BareN (L.foldl (fun M x => x.2.2 M) N)) w) := by
  obtain ⟨ok, hok⟩ : ∃ ok : Prop, ((∀ x ∈ L, x.2.1 N) ∧ BareN (L.foldl (fun M x => x.2.2 M) N)) = ok := ⟨_, rfl⟩
  have HOK : Hid (ok = ((∀ x ∈ L, x.2.1 N) ∧ BareN (L.foldl (fun M x => x.2.2 M) N))) := hok.symm
  obtain ⟨m, hm⟩ : ∃ m, L.length = m := ⟨_, rfl⟩
  have HM : Hid (L.length = m) := hm
  have hlen := hL.len
  rw [hm] at hlen
  rw [hok, hm]
  have HN : Hid (NB w b N) := hN
  have HA : Hid (N.At w) := hA
  have HG : Hid (Ground w) := hg
  have HL : Hid (RowC w fa 5 (L.map fun x => x.1.cl)) := hL
  have HF : Hid (∀ x ∈ L, x.1.Ck w x.2.1 x.2.2) := hF
  clear hok hm hL hF hN hA hg
  obtain ⟨cs, hcs⟩ : ∃ cs, N.cl.toArray = cs := ⟨_, rfl⟩
  have HSZ : Hid (cs.size = 21) := by show _ = _; rw [← hcs]; rfl
  have HRG : Hid (w.rangeAt b 0 N.cl) := fun j v hv => by rw [Nat.zero_add]; exact HN.out.cell hv
  have hst2 : ∀ c : Array Value, c.size = 21 → (storeCells ⟨w.heap.size, 0, none⟩ cs.toList 0).run Tryz.prog (w.alloc (.cells c 51)) = .ok () (w.alloc (.cells cs 51)) := fun c hc => by
    refine run_storeCells_new w 51 c cs ?_ (by rw [hc, HSZ.out]) ?_
    · rw [HSZ.out]; kernel_rfl
    · rw [← hcs]; exact all_oneCell_toArray (fun v hv => one_cl N v hv)
  have HCS : Hid (N.cl.toArray = cs) := hcs
  clear hcs
  go_enter Tryz.func40, Tryz.ntmps40
  go_upto_region 1 with (first
    | (refine wpList_load_mid rfl 51 _ rfl b 0 rfl N.cl _ HRG.out Tryz.underlying51 rfl (by kernel_rfl) ?_; rw [HCS.out])
    | fail)
  clear hst2
  obtain ⟨br, hbr⟩ : ∃ br, w.heap.size = br := ⟨_, rfl⟩
  obtain ⟨w0, hw0⟩ : ∃ w0, w.alloc (.cells cs 51) = w0 := ⟨_, rfl⟩
  have HB0 : Hid (Below w.heap.size w w0) := by rw [← hw0]; exact (Below.refl _ _).alloc (Nat.le_refl _) _
  have HR0 : Hid (NB w0 br N) := by
    show NB w0 br N
    unfold NB
    rw [← hw0, ← hbr, HCS.out]
    exact heap_alloc_new _ _
  have HBR : Hid (w.heap.size = br) := hbr
  rw [hw0, hbr]
  clear hw0 hbr
  go_wp2_with fail
  go_loopw [12] (fun iv wr => ∃ q : Nat, iv = .int .i64 q ∧ q ≤ m ∧ Hid (∀ j x, j < q → L[j]? = some x → x.2.1 N) ∧ Hid (NB wr br ((L.take q).foldl (fun M x => x.2.2 M) N)) ∧ Hid (Below w.heap.size w wr)) (fun iv _ => m - (intOf iv).toNat)
  case atStart => exact ⟨0, rfl, Nat.zero_le _, fun j x h => absurd h (by omega), HR0.out, HB0.out⟩
  case round =>
    obtain ⟨q, rfl, hqm, HDo, HRr, HBr⟩ := hrel
    by_cases hlt : q < m
    · have hlt' : (q : Int) < (m : Int) := by omega
      obtain ⟨x, hx⟩ : ∃ x, L[q]? = some x := ⟨L[q]'(by rw [HM.out]; exact hlt), List.getElem?_eq_getElem _⟩
      have HX : Hid (L[q]? = some x) := hx
      have HFX : Hid (x.1.Ck w x.2.1 x.2.2) := HF.out x (List.mem_of_getElem? hx)
      obtain ⟨g, o, rfl, n0, n1, n2, n3, n4⟩ := (HL.out.below HBr.out).at5 (map_at (f := fun x => x.1.cl) hx)
      clear hx
      have HCK : Hid (∀ W, Below w.heap.size w W → Calls Tryz.prog x.1.cF (#[.pointer (some ⟨b, 0, none⟩)] ++ x.1.cC) W (CK (x.2.1 N) W)) := fun W hb => HFX.out.chk W b N hb (kept_block hb HN.out) (HA.out.below hb) (HG.out.below hb)
      have HEM : Hid (∀ (W : World) (M : NoN), Below w.heap.size w W → NB W br M → Calls Tryz.prog x.1.eF (#[.pointer (some ⟨br, 0, none⟩)] ++ x.1.eC) W fun e W' => e = .returned (.tuple #[]) ∧ NB W' br (x.2.2 M) ∧ Chg W W' (fun k => k = br)) := fun W M hb hn => HFX.out.emp W br M hb hn (by rw [HBR.out]; exact Nat.le_refl _)
      have hic := HFX.out.inC
      have hie := HFX.out.inE
      obtain ⟨M, hM⟩ : ∃ M, (L.take q).foldl (fun M x => x.2.2 M) N = M := ⟨_, rfl⟩
      have HRM : Hid (NB wr br M) := by rw [← hM]; exact HRr.out
      have HMM : Hid ((L.take q).foldl (fun M x => x.2.2 M) N = M) := hM
      clear hM
      go_upto_region 4 with fail
      obtain ⟨h1, hh1⟩ : ∃ h1, wr.heap.size = h1 := ⟨_, rfl⟩
      have hF0 := heap_alloc_new wr (.cells #[.string x.1.nm, .func (.func x.1.cF) #[] x.1.cC, .func (.func x.1.eF) #[] x.1.eC, .func (.func x.1.wF) #[] x.1.wC, .func (.func x.1.rF) #[] x.1.rC] 148)
      rw [hh1] at hF0 ⊢
      obtain ⟨w1, hw1⟩ : ∃ w1, wr.alloc (.cells #[.string x.1.nm, .func (.func x.1.cF) #[] x.1.cC, .func (.func x.1.eF) #[] x.1.eC, .func (.func x.1.wF) #[] x.1.wC, .func (.func x.1.rF) #[] x.1.rC] 148) = w1 := ⟨_, rfl⟩
      have HB1 : Hid (Below w.heap.size w w1) := by rw [← hw1]; exact ext_alloc HBr.out _
      have HR1 : Hid (NB w1 br M) := by show NB w1 br M; rw [← hw1]; exact new_old HRM.out _
      have HNE : Hid (br ≠ h1) := by
        have h2 := lt_of_blk HRM.out
        show br ≠ h1
        omega
      rw [hw1] at hF0 ⊢
      have HF1 : Hid (w1.heap[h1]? = some (.cells #[.string x.1.nm, .func (.func x.1.cF) #[] x.1.cC, .func (.func x.1.eF) #[] x.1.eC, .func (.func x.1.wF) #[] x.1.wC, .func (.func x.1.rF) #[] x.1.rC] 148 (0, 0))) := hF0
      clear hw1 hh1 n0 n1 n2 n3 n4 hF0
      obtain ⟨d0, d1, d2, d3, d4⟩ := cells_5N HF1.out
      go_wp2_with (first
        | (have hq := HB1; clear hq; refine Calls.mono (HCK.out _ HB1.out) ?_; rintro e w2 ⟨⟨rfl, h⟩ | ⟨rfl, h⟩, hb⟩
           rotate_left
           · exact ⟨rfl, .inr ⟨rfl, by rw [HOK.out]; exact fun g => h (g.1 x (List.mem_of_getElem? HX.out))⟩, xtransN HB1.out hb⟩
           have HOX : Hid (x.2.1 N) := h
           have HB2 : Hid (Below w.heap.size w w2) := xtransN HB1.out hb
           have HR2 : Hid (NB w2 br M) := kept_block hb HR1.out
           have HF2 : Hid (w2.heap[h1]? = some (.cells #[.string x.1.nm, .func (.func x.1.cF) #[] x.1.cC, .func (.func x.1.eF) #[] x.1.eC, .func (.func x.1.wF) #[] x.1.wC, .func (.func x.1.rF) #[] x.1.rC] 148 (0, 0))) := kept_block hb HF1.out
           clear h hb d0 d1 d2 d3 d4 HB1
           obtain ⟨d0, d1, d2, d3, d4⟩ := cells_5N HF2.out)
        | (have hq := HB2; clear hq; refine Calls.mono (HEM.out _ M HB2.out HR2.out) ?_; rintro e w3 ⟨rfl, hr3, hc3⟩
           have HR3 : Hid (NB w3 br (x.2.2 M)) := hr3
           have HB3 : Hid (Below w.heap.size w w3) := HB2.out.trans (hc3.below HB2.out.size (fun k _ e => by rw [HBR.out, e]; exact Nat.le_refl _))
           clear hr3 hc3 d0 d1 d2 d3 d4 HB2)
        | fail)
      go_roundw
      case rel => exact ⟨q + 1, by go_num, by omega, fun j y hj hy => (by
          by_cases e : j = q
          · subst e
            rw [HX.out] at hy
            cases hy
            exact HOX.out
          · exact HDo.out j y (by omega) hy), by
            rw [List.take_add_one, HX.out, List.foldl_append, HMM.out]
            exact HR3.out, HB3.out⟩
      case measure => simp [intOf]; omega
    · have hlt' : ¬ (q : Int) < (m : Int) := by omega
      have HFO : Hid (NB wr br (L.foldl (fun M x => x.2.2 M) N)) := by
        have h1 := HRr.out
        rw [List.take_of_length_le (by rw [HM.out]; omega)] at h1
        exact h1
      have HDA : Hid (∀ x ∈ L, x.2.1 N) := fun x hx => by
        obtain ⟨j, hj, e⟩ := List.getElem_of_mem hx
        have := HM.out
        exact HDo.out j x (by omega) (by rw [List.getElem?_eq_getElem hj, e])
      have HBA : Hid _ := bare_any br (L.foldl (fun M x => x.2.2 M) N) wr HFO.out
      go_wp2_with (first
        | (go_at_call 83; refine Calls.mono HBA.out ?_; rintro e w2 ⟨bb, rfl, hbb, hb⟩
           have HBB : Hid (bb = true ↔ BareN (L.foldl (fun M x => x.2.2 M) N)) := hbb
           have HB2 : Hid (Below w.heap.size w w2) := xtransN HBr.out hb
           clear hbb hb)
        | (go_at_call 70; refine Calls.mono (must_ckB _ _) ?_; rintro e w3 ⟨⟨rfl, h⟩ | ⟨rfl, h⟩, hb⟩
           rotate_left
           · exact ⟨rfl, .inr ⟨rfl, by rw [HOK.out]; exact fun g => h (HBB.out.2 g.2)⟩, xtransN HB2.out hb⟩
           have HLA : Hid (bb = true) := h
           have HB3 : Hid (Below w.heap.size w w3) := xtransN HB2.out hb
           clear h hb)
        | fail)
      exact bodyPost_end (results_none rfl _ _ _) rfl ⟨.inl ⟨rfl, by rw [HOK.out]; exact ⟨HDA.out, HBB.out.1 HLA.out⟩⟩, HB3.out⟩
end Go.Proofs.YtdjfeomdiljaeaaGreatDoor
