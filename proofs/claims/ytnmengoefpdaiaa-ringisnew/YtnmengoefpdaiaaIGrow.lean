/-
  own.go: grow: behind each list others are put.
-/
import Derived.Test.YtnmengoefpdaiaaIFam2
namespace Go.Proofs.Ytnmengoefpdaiaa.I
open Go.RowKit
set_option linter.unusedVariables false
set_option linter.unusedSimpArgs false

def grB (k : Nat) : Nat := if k < 64 then 96 else 2
theorem grB_le (k : Nat) : grB k ≤ 96 := by unfold grB; split <;> omega
theorem grownBy_any (k : Nat) (w : World) : Calls Try.prog 38 #[.int .i64 k] w fun e w' => e = .returned (.int .i64 (grB k)) ∧ w' = w := by
  by_cases h : k < 64
  · have h1 : (k : Int) < 64 := by omega
    have HG : Hid (grB k = 96) := by show _ = _; unfold grB; rw [if_pos h]
    go_enter Try.func38, Try.ntmps38
    go_wp2_with fail
    go_ret
    exact ⟨by rw [HG.out]; rfl, rfl⟩
  · have h1 : ¬ (k : Int) < 64 := by omega
    have HG : Hid (grB k = 2) := by show _ = _; unfold grB; rw [if_neg h]
    go_enter Try.func38, Try.ntmps38
    go_wp2_with fail
    go_ret
    exact ⟨by rw [HG.out]; rfl, rfl⟩
/-- What is put behind list j. -/
def bhd {sz : Nat} (mk : Int → El sz) (j : Nat) : List (El sz) := List.replicate (grB j) (mk (-(j : Int) - 1))
/-- The grown lists, under a head. -/
structure Rs (w : World) (tH T sz : Nat) (mk : Int → El sz) (gv : Value) (gs : List Value) (ls : List (List (El sz))) : Prop where
  gr : w.ownsRow 0 tH 1 gv gs.length gs
  rd : ∀ (j : Nat) (g : Value) (l : List (El sz)), gs[j]? = some g → ls[j]? = some l → w.ownsRow 0 T sz g (l.length + (bhd mk j).length) (fl l ++ fl (bhd mk j))
def RsB (gv : Value) (gs : List Value) (b : Nat) : Prop := gv.ownBlock = some b ∨ FamB gs b
theorem Rs.keep {w w' : World} {tH T sz : Nat} {mk : Int → El sz} {gv : Value} {gs : List Value} {ls : List (List (El sz))} (h : Rs w tH T sz mk gv gs ls) (hlen : gs.length ≤ ls.length) (hk : Kp w w' (RsB gv gs)) : Rs w' tH T sz mk gv gs ls :=
  ⟨owns_same h.gr (fun b hb => hk.block b (row_block h.gr b hb).2 (.inl hb)), fun j g l hg hl => owns_same (h.rd j g l hg hl) (fun b hb => hk.block b (row_block (h.rd j g l hg hl) b hb).2 (.inr ⟨j, g, hg, hb⟩))⟩
/-- Between two lists: w: how it was at the start. -/
structure Gk (w wr : World) (tH T sz : Nat) (mk : Int → El sz) (us : List Value) (hv gv : Value) (gs : List Value) (ls : List (List (El sz))) (q : Nat) : Prop where
  rs : Rs wr tH T sz mk gv gs ls
  len : gs.length = q
  hd : ∀ b, gv.ownBlock = some b → w.heap.size ≤ b
  at' : ∀ (j : Nat) (g u : Value), gs[j]? = some g → us[j]? = some u → g.ownBlock = u.ownBlock ∨ ∃ b, g.ownBlock = some b ∧ w.heap.size ≤ b
/-- One more grown list. -/
theorem Gk.next {w wr w1 w2 w3 : World} {tH T sz : Nat} {mk : Int → El sz} {us : List Value} {hv gv : Value} {gs : List Value} {ls : List (List (El sz))} {q g3 c3 B o3 : Nat} {g u : Value} {l : List (El sz)} (hT : T ≠ tH) (hG : Gk w wr tH T sz mk us hv gv gs ls q) (hF : Fam wr T sz us ls) (h0 : ∀ b, FamB us b → b < w.heap.size) (hww : w.heap.size ≤ wr.heap.size) (hlen : us.length = ls.length)
    (hu : us[q]? = some u) (hl : ls[q]? = some l) (hg : Gro T sz wr w1 u l (bhd mk q) g) (hw2 : Below w1.heap.size w1 w2)
    (h3 : w3.ownsRow 0 tH 1 (.slice (some ⟨g3, 0, none⟩) (gs.length + 1) c3) (gs.length + 1) (gs ++ [g]))
    (hal : (gv = .slice (some ⟨g3, 0, none⟩) gs.length c3 ∧ w2.grownBy w3 (some g3)) ∨ (w2.heap.size ≤ g3 ∧ w2.grownBy w3 none))
    {bt : TypeId} {bc : Array Value} (hB : wr.heap[B]? = some (.cells bc bt (0, 0))) (hbT : T ≠ bt) (hbH : tH ≠ bt) (hBw : B < w.heap.size) (x : Value) :
    Gk w (w3.setCell ⟨B, o3, none⟩ x) tH T sz mk us hv (.slice (some ⟨g3, 0, none⟩) (gs.length + 1) c3) (gs ++ [g]) ls (q + 1) := by
  have s1 := hg.chg.size
  have s2 := hw2.size
  have hub : ∀ b, u.ownBlock = some b → b < w.heap.size := fun b hb => h0 b ⟨q, u, hu, hb⟩
  have hgr3 : ∃ row, w2.grownBy w3 row ∧ ∀ b, row = some b → gv.ownBlock = some b ∧ w.heap.size ≤ b := by
    rcases hal with ⟨e, hg3⟩ | ⟨_, hg3⟩
    · have e2 : gv.ownBlock = some g3 := by rw [e]; rfl
      exact ⟨_, hg3, fun b hb => by cases hb; exact ⟨e2, hG.hd _ e2⟩⟩
    · exact ⟨_, hg3, fun b hb => by cases hb⟩
  obtain ⟨row, hgr, hrow⟩ := hgr3
  have s3 := hgr.size
  have hg3B : g3 ≠ B := by
    rcases hal with ⟨e, _⟩ | ⟨h, _⟩
    · have := hG.hd g3 (by rw [e]; rfl); omega
    · omega
  have keepT : ∀ {v : Value} {k : Nat} {xs : List Value}, wr.ownsRow 0 T sz v k xs → (∀ b, v.ownBlock = some b → u.ownBlock ≠ some b) → (w3.setCell ⟨B, o3, none⟩ x).ownsRow 0 T sz v k xs := fun {v k xs} hv hne => owns_same hv (fun b hb => by
    have hlt := (row_block hv b hb).2
    rw [Below.heap_setCell _ _ _ b (kind_box hv hb hB hbT), hgr.block b (by omega) (fun e' => ?_), hw2.block b (by omega), hg.chg.block b hlt (hne b hb)]
    exact kind_ne2 hv hG.rs.gr hb (hrow b e'.symm).1 hT)
  have hgB : ∀ b, g.ownBlock = some b → b ≠ B := fun b hb e' => by
    rcases hg.alt with ⟨a, c, hua, hga⟩ | ⟨b', hb', hN⟩
    · have : u.ownBlock = some b := by
        rw [hga] at hb
        rw [hua]
        cases a with
        | none => cases hb
        | some a => exact hb
      exact kind_box (hF.row q u l hu hl) this hB hbT e'
    · rw [hb'] at hb; have hb : b' = b := by simpa using hb
      omega
  have hgrow : (w3.setCell ⟨B, o3, none⟩ x).ownsRow 0 T sz g (l.length + (bhd mk q).length) (fl l ++ fl (bhd mk q)) := owns_same hg.row (fun b hb => by
    have hlt := (row_block hg.row b hb).2
    rw [Below.heap_setCell _ _ _ b (hgB b hb), hgr.block b (by omega) (fun e' => ?_), hw2.block b hlt]
    have hh := hrow b e'.symm
    rcases hg.alt with ⟨a, c, hua, hga⟩ | ⟨b', hb', hN⟩
    · have : u.ownBlock = some b := by
        rw [hga] at hb
        rw [hua]
        cases a with
        | none => cases hb
        | some a => exact hb
      have := hub b this
      omega
    · rw [hb'] at hb
      have hb : b' = b := by simpa using hb
      have := (row_block hG.rs.gr b hh.1).2
      omega)
  have hat : ∀ {k : Nat} {y : Value}, (gs ++ [g])[k]? = some y → gs[k]? = some y ∨ (k = gs.length ∧ y = g) := fun {k y} hy => by
    rw [List.getElem?_append] at hy
    split at hy
    · exact .inl hy
    · by_cases hz : k - gs.length = 0
      · rw [hz] at hy
        exact .inr ⟨by omega, by simpa using hy.symm⟩
      · rw [List.getElem?_eq_none (by simp; omega)] at hy; cases hy
  refine ⟨⟨?_, fun j g' l' hg' hl' => ?_⟩, by simp [hG.len], fun b hb => ?_, fun j g' u' hg' hu' => ?_⟩
  · have h9 : (w3.setCell ⟨B, o3, none⟩ x).ownsRow 0 tH 1 (.slice (some ⟨g3, 0, none⟩) (gs.length + 1) c3) (gs.length + 1) (gs ++ [g]) := owns_same h3 (fun b hb => by
      have hb : g3 = b := by simpa [Value.ownBlock] using hb
      exact Below.heap_setCell _ _ _ b (by show b ≠ B; omega))
    simpa using h9
  · rcases hat hg' with hg' | ⟨hj, rfl⟩
    · refine keepT (hG.rs.rd j g' l' hg' hl') (fun b hb hub' => ?_)
      have hjl := (List.getElem?_eq_some_iff.1 hl').1
      obtain ⟨u', hu'⟩ : ∃ u', us[j]? = some u' := ⟨us[j]'(by rw [hlen]; exact hjl), List.getElem?_eq_getElem _⟩
      rcases hG.at' j g' u' hg' hu' with e' | ⟨b', hb', hN⟩
      · have := hF.nd j q u' u b hu' hu (by rw [← e']; exact hb) hub'
        have := (List.getElem?_eq_some_iff.1 hg').1
        have := hG.len
        omega
      · rw [hb'] at hb
        have hb : b' = b := by simpa using hb
        have := hub b hub'
        omega
    · rw [hj, hG.len] at hl' ⊢
      rw [hl] at hl'
      cases hl'
      exact hgrow
  · have hb : g3 = b := by simpa [Value.ownBlock] using hb
    subst hb
    rcases hal with ⟨e, _⟩ | ⟨h, _⟩
    · exact hG.hd _ (by rw [e]; rfl)
    · omega
  · rcases hat hg' with hg' | ⟨hj, rfl⟩
    · exact hG.at' j g' u' hg' hu'
    · rw [hj, hG.len, hu] at hu'
      cases hu'
      rcases hg.alt with ⟨a, c, hua, hga⟩ | ⟨b', hb', hN⟩
      · left
        rw [hga, hua]
        cases a <;> rfl
      · exact .inr ⟨b', hb', by omega⟩
end Go.Proofs.Ytnmengoefpdaiaa.I
