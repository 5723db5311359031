import Derived.Test.YtbblckcjedjbcaaGreatDoorJStandB
namespace Go.Proofs.YtbblckcjedjbcaaGreatDoor.J
open Go.RowKit
set_option linter.unusedVariables false
set_option linter.unusedSimpArgs false

/-- The book behind grow: what stands asks. -/
structure Gd (w : World) (B : Nat) (hv hn gv gn : Value) (us ms gs gm : List Value) (ls : List (List (El 2))) (ns : List (List (El 4))) (L1 L2 : List Nat) : Prop where
  bo : Bo w B hv hn gv gn us ms ls ns
  rv : Rs w 37 34 2 mkV gv gs ls
  gl : gs.length = us.length
  rn : Rs w 43 40 4 mkN gn gm ns
  ml : gm.length = ms.length
  k1 : Mk mkV L1 ls us.length
  k2 : Mk mkN L2 ns ms.length
  u1 : us.length ≤ 1000
  u2 : ms.length ≤ 1000
  l1 : ∀ l ∈ ls, l.length ≤ 1000
  l2 : ∀ l ∈ ns, l.length ≤ 1000
theorem Gd.stands {w : World} {B : Nat} {hv hn gv gn : Value} {us ms gs gm : List Value} {ls : List (List (El 2))} {ns : List (List (El 4))} {L1 L2 : List Nat} (h : Gd w B hv hn gv gn us ms gs gm ls ns L1 L2) :
    Calls Tryz.prog 24 #[.pointer (some ⟨B, 0, none⟩)] w fun e w' => e = .returned (.bool true) ∧ Below w.heap.size w w' :=
  bstands_any B hv hn gv gn us ms gs gm ls ns L1 L2 w h.bo h.rv h.gl h.rn h.ml h.k1 h.k2 h.u1 h.u2 h.l1 h.l2
def GdB (B : Nat) (hv hn gv gn : Value) (us ms gs gm : List Value) (b : Nat) : Prop := b = B ∨ hv.ownBlock = some b ∨ hn.ownBlock = some b ∨ FamB us b ∨ FamB ms b ∨ RsB gv gs b ∨ RsB gn gm b
theorem Gd.keep {w w' : World} {B : Nat} {hv hn gv gn : Value} {us ms gs gm : List Value} {ls : List (List (El 2))} {ns : List (List (El 4))} {L1 L2 : List Nat} (h : Gd w B hv hn gv gn us ms gs gm ls ns L1 L2) (hk : Kp w w' (GdB B hv hn gv gn us ms gs gm)) : Gd w' B hv hn gv gn us ms gs gm ls ns L1 L2 :=
  ⟨⟨by rw [hk.block B (lt_of_blk h.bo.box) (.inl rfl)]; exact h.bo.box, owns_same h.bo.hr (fun b hb => hk.block b (row_block h.bo.hr b hb).2 (.inr (.inl hb))), owns_same h.bo.nr (fun b hb => hk.block b (row_block h.bo.nr b hb).2 (.inr (.inr (.inl hb)))), h.bo.fu.keep (hk.mono (fun b _ hb => .inr (.inr (.inr (.inl hb))))), h.bo.fm.keep (hk.mono (fun b _ hb => .inr (.inr (.inr (.inr (.inl hb))))))⟩,
   h.rv.keep (by rw [h.gl, h.bo.fu.len]; exact Nat.le_refl _) (hk.mono (fun b _ hb => .inr (.inr (.inr (.inr (.inr (.inl hb))))))), h.gl, h.rn.keep (by rw [h.ml, h.bo.fm.len]; exact Nat.le_refl _) (hk.mono (fun b _ hb => .inr (.inr (.inr (.inr (.inr (.inr hb))))))), h.ml, h.k1, h.k2, h.u1, h.u2, h.l1, h.l2⟩
theorem Mk.bound {sz : Nat} {mk : Int → El sz} {ls ls' : List (List (El sz))} {q c : Nat} (h : Mk mk (ls.map List.length) ls' q) (hl : ∀ l ∈ ls, l.length ≤ c) : ∀ l ∈ ls', l.length ≤ c := fun l hm => by
  have h1 : l.length ∈ ls'.map List.length := List.mem_map_of_mem hm
  rw [h.len] at h1
  obtain ⟨l2, h2, e⟩ := List.mem_map.1 h1
  rw [← e]
  exact hl l2 h2
set_option maxHeartbeats 6400000 in
set_option maxRecDepth 100000 in
theorem apart_any (B : Nat) (hv hn : Value) (us ms : List Value) (ls : List (List (El 2))) (ns : List (List (El 4))) (w : World) (h : Bo w B hv hn (.slice none 0 0) (.slice none 0 0) us ms ls ns) (hu : us.length ≤ 1000) (hm : ms.length ≤ 1000) (hul : ∀ l ∈ ls, l.length ≤ 1000) (hml : ∀ l ∈ ns, l.length ≤ 1000) :
    Calls Tryz.prog 21 #[.pointer (some ⟨B, 0, none⟩)] w fun e w' => e = .returned (.bool true) ∧ ∃ gv gn gs gm ls' ns' L1 L2, Gd w' B hv hn gv gn us ms gs gm ls' ns' L1 L2 ∧ Chg w w' (fun b => b = B ∨ FamB us b ∨ FamB ms b) ∧ (∀ b, RsB gv gs b → FamB us b ∨ w.heap.size ≤ b) ∧ (∀ b, RsB gn gm b → FamB ms b ∨ w.heap.size ≤ b) := by
  have H0 : Hid (Bo w B hv hn (.slice none 0 0) (.slice none 0 0) us ms ls ns) := h
  have HU : Hid (us.length ≤ 1000) := hu
  have HM : Hid (ms.length ≤ 1000) := hm
  have HUL : Hid (∀ l ∈ ls, l.length ≤ 1000) := hul
  have HML : Hid (∀ l ∈ ns, l.length ≤ 1000) := hml
  clear h hu hm hul hml
  go_enter Tryz.func21, Tryz.ntmps21
  go_wp2_with (first
    | (go_at_call 47; refine Calls.mono (full_any B hv hn (.slice none 0 0) (.slice none 0 0) us ms ls ns w H0.out HU.out HM.out (fun k hk => by obtain ⟨l, h1, e⟩ := List.mem_map.1 hk; rw [← e]; exact HUL.out l h1) (fun k hk => by obtain ⟨l, h1, e⟩ := List.mem_map.1 hk; rw [← e]; exact HML.out l h1)) ?_; rintro e w1 ⟨rfl, ⟨ls', ns', h1, m1, m2⟩, c1⟩
       have H1 : Hid (Bo w1 B hv hn (.slice none 0 0) (.slice none 0 0) us ms ls' ns') := h1
       have HK : Hid (Mk mkV (ls.map List.length) ls' us.length ∧ Mk mkN (ns.map List.length) ns' ms.length) := ⟨m1, m2⟩
       have HC1 : Hid (Chg w w1 (fun b => b = B ∨ FamB us b ∨ FamB ms b)) := c1.mono (fun _ _ hh => .inr hh)
       clear h1 m1 m2 c1)
    | (go_at_call 48; refine Calls.mono (grow_any B hv hn us ms ls' ns' w1 H1.out HU.out HM.out (HK.out.1.bound HUL.out) (HK.out.2.bound HML.out)) ?_; rintro e w2 ⟨rfl, gv, gn, gs, gm, h2, r1, g1, r2, g2, c2, n1, n2⟩
       have H2 : Hid (Gd w2 B hv hn gv gn us ms gs gm ls' ns' (ls.map List.length) (ns.map List.length)) := ⟨h2, r1, g1, r2, g2, HK.out.1, HK.out.2, HU.out, HM.out, HK.out.1.bound HUL.out, HK.out.2.bound HML.out⟩
       have HC2 : Hid (Chg w w2 (fun b => b = B ∨ FamB us b ∨ FamB ms b)) := HC1.out.trans c2
       have HN1 : Hid (∀ b, RsB gv gs b → FamB us b ∨ w.heap.size ≤ b) := fun b hb => (n1 b hb).imp_right (Nat.le_trans HC1.out.size)
       have HN2 : Hid (∀ b, RsB gn gm b → FamB ms b ∨ w.heap.size ≤ b) := fun b hb => (n2 b hb).imp_right (Nat.le_trans HC1.out.size)
       clear h2 r1 g1 r2 g2 c2 n1 n2)
    | (go_at_call 24; refine Calls.mono H2.out.stands ?_; rintro e w3 ⟨rfl, hb3⟩
       have H3 : Hid (Below w2.heap.size w2 w3) := hb3
       clear hb3)
    | fail)
  go_ret
  exact ⟨rfl, gv, gn, gs, gm, ls', ns', _, _, H2.out.keep (Kp.of_below H3.out _), HC2.out.trans (Chg.of_below H3.out _), HN1.out, HN2.out⟩
end Go.Proofs.YtbblckcjedjbcaaGreatDoor.J
namespace Go.Proofs.YtbblckcjedjbcaaGreatDoor.J
open Go.RowKit
set_option linter.unusedVariables false
set_option linter.unusedSimpArgs false

theorem Bo.pushV {w w2 w3 : World} {B g3 c3 : Nat} {hv hn m1 m2 u : Value} {us ms : List Value} {ls : List (List (El 2))} {ns : List (List (El 4))} {l : List (El 2)} (h : Bo w B hv hn m1 m2 us ms ls ns) (hr : w.ownsRow 0 34 2 u l.length (fl l)) (hne : ∀ b, u.ownBlock = some b → ¬ FamB us b) (hb : Below w.heap.size w w2)
    (h3 : w3.ownsRow 0 37 1 (.slice (some ⟨g3, 0, none⟩) (us.length + 1) c3) (us.length + 1) (us ++ [u])) (hal : (hv = .slice (some ⟨g3, 0, none⟩) us.length c3 ∧ w2.grownBy w3 (some g3)) ∨ (w2.heap.size ≤ g3 ∧ w2.grownBy w3 none)) :
    Bo (w3.setCell ⟨B, 0, none⟩ (.slice (some ⟨g3, 0, none⟩) (us.length + 1) c3)) B (.slice (some ⟨g3, 0, none⟩) (us.length + 1) c3) hn m1 m2 (us ++ [u]) ms (ls ++ [l]) ns ∧ Chg w (w3.setCell ⟨B, 0, none⟩ (.slice (some ⟨g3, 0, none⟩) (us.length + 1) c3)) (fun b => b = B ∨ hv.ownBlock = some b) := by
  have h2 := h.on hb
  obtain ⟨row, hg, hrow⟩ : ∃ row, w2.grownBy w3 row ∧ ∀ b, row = some b → hv.ownBlock = some b := by
    rcases hal with ⟨e, hg3⟩ | ⟨_, hg3⟩
    · exact ⟨_, hg3, fun b hb => by cases hb; rw [e]; rfl⟩
    · exact ⟨_, hg3, fun b hb => by cases hb⟩
  have hc : Chg w2 w3 (fun b => row = some b) := Chg.grown hg
  have hB : w3.heap[B]? = some (.cells #[hv, m1, hn, m2] 60 (0, 0)) := by rw [hc.block B (lt_of_blk h2.box) (fun e' => kind_box h2.hr (hrow B e') h2.box (by decide) rfl)]; exact h2.box
  have keep : ∀ {T sz n : Nat} {v : Value} {xs : List Value}, w2.ownsRow 0 T sz v n xs → T ≠ 60 → T ≠ 37 → (w3.setCell ⟨B, 0, none⟩ (.slice (some ⟨g3, 0, none⟩) (us.length + 1) c3)).ownsRow 0 T sz v n xs := fun {T sz n v xs} hr hT hT2 => owns_same hr (fun b hb' => by
    rw [Below.heap_setCell _ _ _ b (kind_box hr hb' h2.box hT), hc.block b (row_block hr b hb').2 (fun e' => kind_ne2 hr h2.hr hb' (hrow b e') hT2)])
  have hnew := keep (owns_below hr hb) (by decide) (by decide)
  have hf : Fam (w3.setCell ⟨B, 0, none⟩ (.slice (some ⟨g3, 0, none⟩) (us.length + 1) c3)) 34 2 us ls := ⟨h2.fu.len, fun k v m hv' hm => keep (h2.fu.row k v m hv' hm) (by decide) (by decide), h2.fu.nd⟩
  have hlen : (us ++ [u]).length = us.length + 1 := by simp
  have k3 : (w3.setCell ⟨B, 0, none⟩ (.slice (some ⟨g3, 0, none⟩) (us.length + 1) c3)).ownsRow 0 37 1 (.slice (some ⟨g3, 0, none⟩) (us.length + 1) c3) (us ++ [u]).length (us ++ [u]) := by
    rw [hlen]
    exact owns_same h3 (fun b hb' => Below.heap_setCell _ _ _ b (kind_box h3 hb' hB (by decide)))
  refine ⟨⟨same_blk hB rfl, k3, keep h2.nr (by decide) (by decide), hf.push hnew hne, ⟨h2.fm.len, fun k v m hv' hm => keep (h2.fm.row k v m hv' hm) (by decide) (by decide), h2.fm.nd⟩⟩, ?_⟩
  exact chg_more (chg_more (Chg.of_below hb _) hc (fun j hj => .inl (.inr (hrow j hj)))) (Chg.set _ _ _) (fun j hj => .inl (.inl hj))
theorem Bo.pushN {w w2 w3 : World} {B g3 c3 : Nat} {hv hn m1 m2 u : Value} {us ms : List Value} {ls : List (List (El 2))} {ns : List (List (El 4))} {l : List (El 4)} (h : Bo w B hv hn m1 m2 us ms ls ns) (hr : w.ownsRow 0 40 4 u l.length (fl l)) (hne : ∀ b, u.ownBlock = some b → ¬ FamB ms b) (hb : Below w.heap.size w w2)
    (h3 : w3.ownsRow 0 43 1 (.slice (some ⟨g3, 0, none⟩) (ms.length + 1) c3) (ms.length + 1) (ms ++ [u])) (hal : (hn = .slice (some ⟨g3, 0, none⟩) ms.length c3 ∧ w2.grownBy w3 (some g3)) ∨ (w2.heap.size ≤ g3 ∧ w2.grownBy w3 none)) :
    Bo (w3.setCell ⟨B, 2, none⟩ (.slice (some ⟨g3, 0, none⟩) (ms.length + 1) c3)) B hv (.slice (some ⟨g3, 0, none⟩) (ms.length + 1) c3) m1 m2 us (ms ++ [u]) ls (ns ++ [l]) ∧ Chg w (w3.setCell ⟨B, 2, none⟩ (.slice (some ⟨g3, 0, none⟩) (ms.length + 1) c3)) (fun b => b = B ∨ hn.ownBlock = some b) := by
  have h2 := h.on hb
  obtain ⟨row, hg, hrow⟩ : ∃ row, w2.grownBy w3 row ∧ ∀ b, row = some b → hn.ownBlock = some b := by
    rcases hal with ⟨e, hg3⟩ | ⟨_, hg3⟩
    · exact ⟨_, hg3, fun b hb => by cases hb; rw [e]; rfl⟩
    · exact ⟨_, hg3, fun b hb => by cases hb⟩
  have hc : Chg w2 w3 (fun b => row = some b) := Chg.grown hg
  have hB : w3.heap[B]? = some (.cells #[hv, m1, hn, m2] 60 (0, 0)) := by rw [hc.block B (lt_of_blk h2.box) (fun e' => kind_box h2.nr (hrow B e') h2.box (by decide) rfl)]; exact h2.box
  have keep : ∀ {T sz n : Nat} {v : Value} {xs : List Value}, w2.ownsRow 0 T sz v n xs → T ≠ 60 → T ≠ 43 → (w3.setCell ⟨B, 2, none⟩ (.slice (some ⟨g3, 0, none⟩) (ms.length + 1) c3)).ownsRow 0 T sz v n xs := fun {T sz n v xs} hr hT hT2 => owns_same hr (fun b hb' => by
    rw [Below.heap_setCell _ _ _ b (kind_box hr hb' h2.box hT), hc.block b (row_block hr b hb').2 (fun e' => kind_ne2 hr h2.nr hb' (hrow b e') hT2)])
  have hnew := keep (owns_below hr hb) (by decide) (by decide)
  have hf : Fam (w3.setCell ⟨B, 2, none⟩ (.slice (some ⟨g3, 0, none⟩) (ms.length + 1) c3)) 40 4 ms ns := ⟨h2.fm.len, fun k v m hv' hm => keep (h2.fm.row k v m hv' hm) (by decide) (by decide), h2.fm.nd⟩
  have hlen : (ms ++ [u]).length = ms.length + 1 := by simp
  have k3 : (w3.setCell ⟨B, 2, none⟩ (.slice (some ⟨g3, 0, none⟩) (ms.length + 1) c3)).ownsRow 0 43 1 (.slice (some ⟨g3, 0, none⟩) (ms.length + 1) c3) (ms ++ [u]).length (ms ++ [u]) := by
    rw [hlen]
    exact owns_same h3 (fun b hb' => Below.heap_setCell _ _ _ b (kind_box h3 hb' hB (by decide)))
  refine ⟨⟨same_blk hB rfl, keep h2.hr (by decide) (by decide), k3, ⟨h2.fu.len, fun k v m hv' hm => keep (h2.fu.row k v m hv' hm) (by decide) (by decide), h2.fu.nd⟩, hf.push hnew hne⟩, ?_⟩
  exact chg_more (chg_more (Chg.of_below hb _) hc (fun j hj => .inl (.inr (hrow j hj)))) (Chg.set _ _ _) (fun j hj => .inl (.inl hj))
end Go.Proofs.YtbblckcjedjbcaaGreatDoor.J
