/-
  own.go: apart.
-/
import Derived.Test.YtnmengoefpdaiaaIStandB
namespace Go.Proofs.Ytnmengoefpdaiaa.I
open Go.RowKit
set_option linter.unusedVariables false
set_option linter.unusedSimpArgs false

/-- The book behind grow: what stands asks. -/
structure Gd (w : World) (B : Nat) (hv hn gv gn : Value) (us ms gs gm : List Value) (ls : List (List (El 5))) (ns : List (List (El 6))) (L1 L2 : List Nat) : Prop where
  bo : Bo w B hv hn gv gn us ms ls ns
  rv : Rs w 36 49 5 mkV gv gs ls
  gl : gs.length = us.length
  rn : Rs w 27 38 6 mkN gn gm ns
  ml : gm.length = ms.length
  k1 : Mk mkV L1 ls us.length
  k2 : Mk mkN L2 ns ms.length
  u1 : us.length ≤ 5000
  u2 : ms.length ≤ 5000
  l1 : ∀ l ∈ ls, l.length ≤ 5000
  l2 : ∀ l ∈ ns, l.length ≤ 5000
theorem Gd.stands {w : World} {B : Nat} {hv hn gv gn : Value} {us ms gs gm : List Value} {ls : List (List (El 5))} {ns : List (List (El 6))} {L1 L2 : List Nat} (h : Gd w B hv hn gv gn us ms gs gm ls ns L1 L2) :
    Calls Try.prog 17 #[.pointer (some ⟨B, 0, none⟩)] w fun e w' => e = .returned (.bool true) ∧ Below w.heap.size w w' :=
  bstands_any B hv hn gv gn us ms gs gm ls ns L1 L2 w h.bo h.rv h.gl h.rn h.ml h.k1 h.k2 h.u1 h.u2 h.l1 h.l2
def GdB (B : Nat) (hv hn gv gn : Value) (us ms gs gm : List Value) (b : Nat) : Prop := b = B ∨ hv.ownBlock = some b ∨ hn.ownBlock = some b ∨ FamB us b ∨ FamB ms b ∨ RsB gv gs b ∨ RsB gn gm b
theorem Gd.keep {w w' : World} {B : Nat} {hv hn gv gn : Value} {us ms gs gm : List Value} {ls : List (List (El 5))} {ns : List (List (El 6))} {L1 L2 : List Nat} (h : Gd w B hv hn gv gn us ms gs gm ls ns L1 L2) (hk : Kp w w' (GdB B hv hn gv gn us ms gs gm)) : Gd w' B hv hn gv gn us ms gs gm ls ns L1 L2 :=
  ⟨⟨by rw [hk.block B (lt_of_blk h.bo.box) (.inl rfl)]; exact h.bo.box, owns_same h.bo.hr (fun b hb => hk.block b (row_block h.bo.hr b hb).2 (.inr (.inl hb))), owns_same h.bo.nr (fun b hb => hk.block b (row_block h.bo.nr b hb).2 (.inr (.inr (.inl hb)))), h.bo.fu.keep (hk.mono (fun b _ hb => .inr (.inr (.inr (.inl hb))))), h.bo.fm.keep (hk.mono (fun b _ hb => .inr (.inr (.inr (.inr (.inl hb))))))⟩,
   h.rv.keep (by rw [h.gl, h.bo.fu.len]; exact Nat.le_refl _) (hk.mono (fun b _ hb => .inr (.inr (.inr (.inr (.inr (.inl hb))))))), h.gl, h.rn.keep (by rw [h.ml, h.bo.fm.len]; exact Nat.le_refl _) (hk.mono (fun b _ hb => .inr (.inr (.inr (.inr (.inr (.inr hb))))))), h.ml, h.k1, h.k2, h.u1, h.u2, h.l1, h.l2⟩
theorem Mk.bound {sz : Nat} {mk : Int → El sz} {ls ls' : List (List (El sz))} {q c : Nat} (h : Mk mk (ls.map List.length) ls' q) (hl : ∀ l ∈ ls, l.length ≤ c) : ∀ l ∈ ls', l.length ≤ c := fun l hm => by
  have h1 : l.length ∈ ls'.map List.length := List.mem_map_of_mem hm
  rw [h.len] at h1
  obtain ⟨l2, h2, e⟩ := List.mem_map.1 h1
  rw [← e]
  exact hl l2 h2
set_option maxHeartbeats 6400000 in
set_option maxRecDepth 500000 in
theorem apart_any (B : Nat) (hv hn : Value) (us ms : List Value) (ls : List (List (El 5))) (ns : List (List (El 6))) (w : World) (h : Bo w B hv hn (.slice none 0 0) (.slice none 0 0) us ms ls ns) (hu : us.length ≤ 5000) (hm : ms.length ≤ 5000) (hul : ∀ l ∈ ls, l.length ≤ 5000) (hml : ∀ l ∈ ns, l.length ≤ 5000) :
    Calls Try.prog 13 #[.pointer (some ⟨B, 0, none⟩)] w fun e w' => e = .returned (.bool true) ∧ ∃ gv gn gs gm ls' ns' L1 L2, Gd w' B hv hn gv gn us ms gs gm ls' ns' L1 L2 ∧ Chg w w' (fun b => b = B ∨ FamB us b ∨ FamB ms b) ∧ (∀ b, RsB gv gs b → FamB us b ∨ w.heap.size ≤ b) ∧ (∀ b, RsB gn gm b → FamB ms b ∨ w.heap.size ≤ b) := by
  have H0 : Hid (Bo w B hv hn (.slice none 0 0) (.slice none 0 0) us ms ls ns) := h
  have HU : Hid (us.length ≤ 5000) := hu
  have HM : Hid (ms.length ≤ 5000) := hm
  have HUL : Hid (∀ l ∈ ls, l.length ≤ 5000) := hul
  have HML : Hid (∀ l ∈ ns, l.length ≤ 5000) := hml
  clear h hu hm hul hml
  go_enter Try.func13, Try.ntmps13
  go_wp2_with (first
    | (go_at_call 27; refine Calls.mono (full_any B hv hn (.slice none 0 0) (.slice none 0 0) us ms ls ns w H0.out HU.out HM.out (fun k hk => by obtain ⟨l, h1, e⟩ := List.mem_map.1 hk; rw [← e]; exact HUL.out l h1) (fun k hk => by obtain ⟨l, h1, e⟩ := List.mem_map.1 hk; rw [← e]; exact HML.out l h1)) ?_; rintro e w1 ⟨rfl, ⟨ls', ns', h1, m1, m2⟩, c1⟩
       have H1 : Hid (Bo w1 B hv hn (.slice none 0 0) (.slice none 0 0) us ms ls' ns') := h1
       have HK : Hid (Mk mkV (ls.map List.length) ls' us.length ∧ Mk mkN (ns.map List.length) ns' ms.length) := ⟨m1, m2⟩
       have HC1 : Hid (Chg w w1 (fun b => b = B ∨ FamB us b ∨ FamB ms b)) := c1.mono (fun _ _ hh => .inr hh)
       clear h1 m1 m2 c1)
    | (go_at_call 28; refine Calls.mono (grow_any B hv hn us ms ls' ns' w1 H1.out HU.out HM.out (HK.out.1.bound HUL.out) (HK.out.2.bound HML.out)) ?_; rintro e w2 ⟨rfl, gv, gn, gs, gm, h2, r1, g1, r2, g2, c2, n1, n2⟩
       have H2 : Hid (Gd w2 B hv hn gv gn us ms gs gm ls' ns' (ls.map List.length) (ns.map List.length)) := ⟨h2, r1, g1, r2, g2, HK.out.1, HK.out.2, HU.out, HM.out, HK.out.1.bound HUL.out, HK.out.2.bound HML.out⟩
       have HC2 : Hid (Chg w w2 (fun b => b = B ∨ FamB us b ∨ FamB ms b)) := HC1.out.trans c2
       have HN1 : Hid (∀ b, RsB gv gs b → FamB us b ∨ w.heap.size ≤ b) := fun b hb => (n1 b hb).imp_right (Nat.le_trans HC1.out.size)
       have HN2 : Hid (∀ b, RsB gn gm b → FamB ms b ∨ w.heap.size ≤ b) := fun b hb => (n2 b hb).imp_right (Nat.le_trans HC1.out.size)
       clear h2 r1 g1 r2 g2 c2 n1 n2)
    | (go_at_call 17; refine Calls.mono H2.out.stands ?_; rintro e w3 ⟨rfl, hb3⟩
       have H3 : Hid (Below w2.heap.size w2 w3) := hb3
       clear hb3)
    | fail)
  go_ret
  exact ⟨rfl, gv, gn, gs, gm, ls', ns', _, _, H2.out.keep (Kp.of_below H3.out _), HC2.out.trans (Chg.of_below H3.out _), HN1.out, HN2.out⟩
end Go.Proofs.Ytnmengoefpdaiaa.I
