/-
  ring, own.go: takes.
-/
import Derived.Test.YtnmengoefpdaiaaIBook
import Derived.Test.YtnmengoefpdaiaaRTwins
namespace Go.Proofs.Ytnmengoefpdaiaa.I
open Go.RowKit
set_option linter.unusedVariables false
set_option linter.unusedSimpArgs false

theorem Bo.pushV2 {w w2 w3 : World} {B g3 c3 : Nat} {hv hn m1 m2 u : Value} {us ms : List Value} {ls : List (List (El 5))} {ns : List (List (El 6))} {l : List (El 5)} (h : Bo w B hv hn m1 m2 us ms ls ns) (hr : w.ownsRow 0 49 5 u l.length (fl l)) (hne : ∀ b, u.ownBlock = some b → ¬ FamB us b) (hb : Below w.heap.size w w2)
    (h3 : w3.ownsRow 0 36 1 (.slice (some ⟨g3, 0, none⟩) (us.length + 1) c3) (us.length + 1) (us ++ [u])) (hg0 : w2.grownBy w3 hv.ownBlock) :
    Bo (w3.setCell ⟨B, 0, none⟩ (.slice (some ⟨g3, 0, none⟩) (us.length + 1) c3)) B (.slice (some ⟨g3, 0, none⟩) (us.length + 1) c3) hn m1 m2 (us ++ [u]) ms (ls ++ [l]) ns ∧ Chg w (w3.setCell ⟨B, 0, none⟩ (.slice (some ⟨g3, 0, none⟩) (us.length + 1) c3)) (fun b => b = B ∨ hv.ownBlock = some b) := by
  have h2 := h.on hb
  obtain ⟨row, hg, hrow⟩ : ∃ row, w2.grownBy w3 row ∧ ∀ b, row = some b → hv.ownBlock = some b := ⟨_, hg0, fun b hb => hb⟩
  have hc : Chg w2 w3 (fun b => row = some b) := Chg.grown hg
  have hB : w3.heap[B]? = some (.cells #[hv, m1, hn, m2] 44 (0, 0)) := by rw [hc.block B (lt_of_blk h2.box) (fun e' => kind_box h2.hr (hrow B e') h2.box (by decide) rfl)]; exact h2.box
  have keep : ∀ {T sz n : Nat} {v : Value} {xs : List Value}, w2.ownsRow 0 T sz v n xs → T ≠ 44 → T ≠ 36 → (w3.setCell ⟨B, 0, none⟩ (.slice (some ⟨g3, 0, none⟩) (us.length + 1) c3)).ownsRow 0 T sz v n xs := fun {T sz n v xs} hr hT hT2 => owns_same hr (fun b hb' => by
    rw [Below.heap_setCell _ _ _ b (kind_box hr hb' h2.box hT), hc.block b (row_block hr b hb').2 (fun e' => kind_ne2 hr h2.hr hb' (hrow b e') hT2)])
  have hnew := keep (owns_below hr hb) (by decide) (by decide)
  have hf : Fam (w3.setCell ⟨B, 0, none⟩ (.slice (some ⟨g3, 0, none⟩) (us.length + 1) c3)) 49 5 us ls := ⟨h2.fu.len, fun k v m hv' hm => keep (h2.fu.row k v m hv' hm) (by decide) (by decide), h2.fu.nd⟩
  have hlen : (us ++ [u]).length = us.length + 1 := by simp
  have k3 : (w3.setCell ⟨B, 0, none⟩ (.slice (some ⟨g3, 0, none⟩) (us.length + 1) c3)).ownsRow 0 36 1 (.slice (some ⟨g3, 0, none⟩) (us.length + 1) c3) (us ++ [u]).length (us ++ [u]) := by
    rw [hlen]
    exact owns_same h3 (fun b hb' => Below.heap_setCell _ _ _ b (kind_box h3 hb' hB (by decide)))
  refine ⟨⟨same_blk hB rfl, k3, keep h2.nr (by decide) (by decide), hf.push hnew hne, ⟨h2.fm.len, fun k v m hv' hm => keep (h2.fm.row k v m hv' hm) (by decide) (by decide), h2.fm.nd⟩⟩, ?_⟩
  exact chg_more (chg_more (Chg.of_below hb _) hc (fun j hj => .inl (.inr (hrow j hj)))) (Chg.set _ _ _) (fun j hj => .inl (.inl hj))
theorem Bo.pushN2 {w w2 w3 : World} {B g3 c3 : Nat} {hv hn m1 m2 u : Value} {us ms : List Value} {ls : List (List (El 5))} {ns : List (List (El 6))} {l : List (El 6)} (h : Bo w B hv hn m1 m2 us ms ls ns) (hr : w.ownsRow 0 38 6 u l.length (fl l)) (hne : ∀ b, u.ownBlock = some b → ¬ FamB ms b) (hb : Below w.heap.size w w2)
    (h3 : w3.ownsRow 0 27 1 (.slice (some ⟨g3, 0, none⟩) (ms.length + 1) c3) (ms.length + 1) (ms ++ [u])) (hg0 : w2.grownBy w3 hn.ownBlock) :
    Bo (w3.setCell ⟨B, 2, none⟩ (.slice (some ⟨g3, 0, none⟩) (ms.length + 1) c3)) B hv (.slice (some ⟨g3, 0, none⟩) (ms.length + 1) c3) m1 m2 us (ms ++ [u]) ls (ns ++ [l]) ∧ Chg w (w3.setCell ⟨B, 2, none⟩ (.slice (some ⟨g3, 0, none⟩) (ms.length + 1) c3)) (fun b => b = B ∨ hn.ownBlock = some b) := by
  have h2 := h.on hb
  obtain ⟨row, hg, hrow⟩ : ∃ row, w2.grownBy w3 row ∧ ∀ b, row = some b → hn.ownBlock = some b := ⟨_, hg0, fun b hb => hb⟩
  have hc : Chg w2 w3 (fun b => row = some b) := Chg.grown hg
  have hB : w3.heap[B]? = some (.cells #[hv, m1, hn, m2] 44 (0, 0)) := by rw [hc.block B (lt_of_blk h2.box) (fun e' => kind_box h2.nr (hrow B e') h2.box (by decide) rfl)]; exact h2.box
  have keep : ∀ {T sz n : Nat} {v : Value} {xs : List Value}, w2.ownsRow 0 T sz v n xs → T ≠ 44 → T ≠ 27 → (w3.setCell ⟨B, 2, none⟩ (.slice (some ⟨g3, 0, none⟩) (ms.length + 1) c3)).ownsRow 0 T sz v n xs := fun {T sz n v xs} hr hT hT2 => owns_same hr (fun b hb' => by
    rw [Below.heap_setCell _ _ _ b (kind_box hr hb' h2.box hT), hc.block b (row_block hr b hb').2 (fun e' => kind_ne2 hr h2.nr hb' (hrow b e') hT2)])
  have hnew := keep (owns_below hr hb) (by decide) (by decide)
  have hf : Fam (w3.setCell ⟨B, 2, none⟩ (.slice (some ⟨g3, 0, none⟩) (ms.length + 1) c3)) 38 6 ms ns := ⟨h2.fm.len, fun k v m hv' hm => keep (h2.fm.row k v m hv' hm) (by decide) (by decide), h2.fm.nd⟩
  have hlen : (ms ++ [u]).length = ms.length + 1 := by simp
  have k3 : (w3.setCell ⟨B, 2, none⟩ (.slice (some ⟨g3, 0, none⟩) (ms.length + 1) c3)).ownsRow 0 27 1 (.slice (some ⟨g3, 0, none⟩) (ms.length + 1) c3) (ms ++ [u]).length (ms ++ [u]) := by
    rw [hlen]
    exact owns_same h3 (fun b hb' => Below.heap_setCell _ _ _ b (kind_box h3 hb' hB (by decide)))
  refine ⟨⟨same_blk hB rfl, keep h2.hr (by decide) (by decide), k3, ⟨h2.fu.len, fun k v m hv' hm => keep (h2.fu.row k v m hv' hm) (by decide) (by decide), h2.fu.nd⟩, hf.push hnew hne⟩, ?_⟩
  exact chg_more (chg_more (Chg.of_below hb _) hc (fun j hj => .inl (.inr (hrow j hj)))) (Chg.set _ _ _) (fun j hj => .inl (.inl hj))
def opEl (o : OpT) : El 5 := ⟨o.cells, rfl, op_one o⟩
theorem fl_opE : ∀ l : List OpT, fl (l.map opEl) = opCs l
  | [] => rfl
  | o :: l => by
    have h := fl_opE l
    simp only [fl, List.map_cons, List.flatMap_cons] at h ⊢
    rw [h]
    simp [opCs, rowCs, opEl]
theorem ent_els : ∀ (P : List PEnt), (∀ p ∈ P, p.x.oneCell' = true) → ∃ l : List (El 6), l.length = P.length ∧ fl l = rowCs PEnt.cells P
  | [], _ => ⟨[], rfl, rfl⟩
  | p :: P, h => by
    obtain ⟨l, hl, hf⟩ := ent_els P (fun q hq => h q (by simp [hq]))
    refine ⟨⟨p.cells, rfl, fun v hv => ?_⟩ :: l, by simp [hl], ?_⟩
    · have hx := h p (by simp)
      simp only [PEnt.cells, List.mem_cons, List.not_mem_nil, or_false] at hv
      rcases hv with rfl | rfl | rfl | rfl | rfl | rfl
      · rfl
      · rfl
      · rfl
      · rfl
      · rfl
      · exact hx
    · simp only [fl, List.flatMap_cons] at hf ⊢
      rw [hf]
      simp [rowCs]
theorem Try.infoOps : (Try.prog.info? 36).map (fun i => (i.zero, i.size, i.bytes)) = some (some (.slice none 0 0), 1, 24) := by kernel_rfl
theorem Try.infoEnts : (Try.prog.info? 27).map (fun i => (i.zero, i.size, i.bytes)) = some (some (.slice none 0 0), 1, 24) := by kernel_rfl
/-- What takes leaves. -/
structure Tk (w w' : World) (B : Nat) (hv hn hv' hn' m1 m2 : Value) (us ms : List Value) (ls : List (List (El 5))) (ns : List (List (El 6))) : Prop where
  bo : Bo w' B hv' hn' m1 m2 us ms ls ns
  chg : Chg w w' (fun b => b = B ∨ hv.ownBlock = some b ∨ hn.ownBlock = some b)
  newV : ∀ b, hv'.ownBlock = some b → hv.ownBlock = some b ∨ w.heap.size ≤ b
  newN : ∀ b, hn'.ownBlock = some b → hn.ownBlock = some b ∨ w.heap.size ≤ b
/-- Entries stay where a book's heads are turned. -/
theorem ents_bo {w w' : World} {B : Nat} {hv hn m1 m2 : Value} {us ms : List Value} {ls : List (List (El 5))} {ns : List (List (El 6))} {v : Value} {P : List PEnt} (h : Bo w B hv hn m1 m2 us ms ls ns) (hE : EntsAt w v P) (hc : Chg w w' (fun b => b = B ∨ hv.ownBlock = some b ∨ hn.ownBlock = some b)) : EntsAt w' v P := by
  refine hE.keepB (fun j hj => hc.block j (hE.ltB j hj) (fun hS => ?_))
  have hkj : ∃ cur t, w.heap[j]? = some (.cells cur t (0, 0)) ∧ (t = 38 ∨ t = 49) := by
    rcases hj with e | ⟨p, hp, e⟩
    · obtain ⟨c, hc⟩ := owns_kind hE.row e
      exact ⟨c, _, hc, .inl rfl⟩
    · obtain ⟨c, hc⟩ := owns_kind (hE.ops p hp) e
      exact ⟨c, _, hc, .inr rfl⟩
  obtain ⟨cur, t, hcur, ht⟩ := hkj
  rcases hS with rfl | e | e
  · rw [h.box] at hcur; cases hcur; rcases ht with h | h <;> exact absurd h (by decide)
  · obtain ⟨c, hc⟩ := owns_kind h.hr e
    rw [hc] at hcur; cases hcur; rcases ht with h | h <;> exact absurd h (by decide)
  · obtain ⟨c, hc⟩ := owns_kind h.nr e
    rw [hc] at hcur; cases hcur; rcases ht with h | h <;> exact absurd h (by decide)
set_option maxHeartbeats 6400000 in
set_option maxRecDepth 100000 in
theorem takes_any (B : Nat) (hv hn' m1 m2 : Value) (us ms : List Value) (ls : List (List (El 5))) (ns : List (List (El 6))) (v : Value) (P : List PEnt) (w : World) (h : Bo w B hv hn' m1 m2 us ms ls ns) (hE : EntsAt w v P) (hn1 : ∀ b, v.ownBlock = some b → ¬ FamB ms b) (hu1 : ∀ p ∈ P, ∀ b, p.x.ownBlock = some b → ¬ FamB us b)
    (hnd : ∀ (i j : Nat) (p q : PEnt) (k : Nat), P[i]? = some p → P[j]? = some q → p.x.ownBlock = some k → q.x.ownBlock = some k → i = j) (hl : P.length ≤ 64) (hul : us.length ≤ 4900) (hml : ms.length ≤ 4900) :
    Calls Try.prog 12 #[.pointer (some ⟨B, 0, none⟩), v] w fun e w' => e = .returned (.tuple #[]) ∧ ∃ hv' hn'' l, Tk w w' B hv hn' hv' hn'' m1 m2 (us ++ P.map (·.x)) (ms ++ [v]) (ls ++ P.map (fun p => p.e.ops.map opEl)) (ns ++ [l]) ∧ l.length = P.length := by
  obtain ⟨el, hel, hfl⟩ := ent_els P (fun p hp => one_slice (hE.ops p hp))
  obtain ⟨va, vc, rfl, _⟩ := owns_form hE.row
  obtain ⟨n, hn⟩ : ∃ z, P.length = z := ⟨_, rfl⟩
  have HEL : Hid (el.length = P.length) := hel
  have HRV : Hid (w.ownsRow 0 38 6 (.slice va n vc) el.length (fl el)) := by rw [hfl, hel, ← hn]; exact hE.row
  have HE : Hid (EntsAt w (.slice va n vc) P) := by rw [← hn]; exact hE
  have HN1 : Hid (∀ b, (Value.slice va n vc).ownBlock = some b → ¬ FamB ms b) := by rw [← hn]; exact hn1
  have HU1 : Hid (∀ p ∈ P, ∀ b, p.x.ownBlock = some b → ¬ FamB us b) := hu1
  have HND : Hid (∀ (i j : Nat) (p q : PEnt) (k : Nat), P[i]? = some p → P[j]? = some q → p.x.ownBlock = some k → q.x.ownBlock = some k → i = j) := hnd
  have HN : Hid (P.length = n) := hn
  obtain ⟨mn, hmn⟩ : ∃ z, ms.length = z := ⟨_, rfl⟩
  obtain ⟨un, hun⟩ : ∃ z, us.length = z := ⟨_, rfl⟩
  have H0 : Hid (Bo w B hv hn' m1 m2 us ms ls ns) := h
  have HRN : Hid (w.ownsRow 0 27 1 hn' mn ms) := by
    have h9 : w.ownsRow 0 27 1 hn' ms.length ms := h.nr
    rw [hmn] at h9
    exact h9
  have HMN : Hid (ms.length = mn ∧ us.length = un) := ⟨hmn, hun⟩
  rw [hn] at hl ⊢
  rw [hmn] at hml
  rw [hun] at hul
  obtain ⟨b0, b1, b2, b3⟩ := cells_4 h.box
  have fb := free_of h.box
  have hbl := lt_of_blk h.box
  clear h hE hel hfl hn1 hu1 hnd hn hmn hun
  go_enter Try.func12, Try.ntmps12
  go_wp2_with (first
    | (at_builtin; refine wpList_row Try.underlying26 Try.infoEnts rfl (by decide) rfl _ _ rfl 0 hn' mn ms rfl (World.ownsRow.alloc HRN.out _) w.heap.size 1 [.slice va n vc] rfl (heap_alloc_new _ _) rfl (fun y hy => by
         simp only [List.mem_cons, List.not_mem_nil, or_false] at hy
         rw [hy]
         rfl) (by unfold maxLen; omega) (by omega) (Nat.zero_le _) ?_)
    | fail)
  intro v3 w3 hd3 hg3 ho3
  have hal3 : Below w.heap.size w (w.alloc (.cells #[.slice va n vc] 27)) := (Below.refl _ _).alloc (Nat.le_refl _) _
  obtain ⟨g3, c3, hv3⟩ := row_some hd3
  subst hv3
  have hp3 := Bo.pushN2 (l := el) H0.out HRV.out HN1.out hal3 (by rw [HMN.out.1]; exact hd3) hg3
  rw [HMN.out.1] at hp3
  have HBX3 : Hid (w3.heap[B]? = some (.cells #[hv, m1, hn', m2] 44 (0, 0))) := by
    have h9 := kept_block hal3 H0.out.box
    refine ((Chg.grown hg3).block B (lt_of_blk h9) (fun e => ?_)).trans h9
    exact kind_box (owns_below H0.out.nr hal3) e h9 (by decide) rfl
  have d2 := (cells_4 HBX3.out).2.2.1
  have fd := free_of HBX3.out
  obtain ⟨W4, hW4⟩ : ∃ z, w3.setCell ⟨B, 2, none⟩ (.slice (some ⟨g3, 0, none⟩) (mn + 1) c3) = z := ⟨_, rfl⟩
  rw [hW4] at hp3
  have HTK0 : Hid (Tk w W4 B hv hn' hv (.slice (some ⟨g3, 0, none⟩) (mn + 1) c3) m1 m2 us (ms ++ [.slice va n vc]) ls (ns ++ [el])) := by
    refine ⟨hp3.1, hp3.2.mono (fun b _ hb => ?_), fun b hb => .inl hb, fun b hb => ?_⟩
    · rcases hb with hb | hb
      · exact .inl hb
      · exact .inr (.inr hb)
    · rcases ho3 with e | e
      · rw [e] at hb; exact .inl hb
      · rw [e] at hb
        cases hb
        exact .inr (by omega)
  have HW4 : Hid (w3.setCell ⟨B, 2, none⟩ (.slice (some ⟨g3, 0, none⟩) (mn + 1) c3) = W4) := hW4
  clear hd3 hg3 ho3 hal3 hp3 hW4 b0 b1 b2 b3 fb
  go_upto_region 1 with fail
  rw [HW4.out]
  go_wp2_with fail
  clear d2 fd
  go_loopw [4] (fun i wr => ∃ (q : Nat) (hq : Value), i = .int .i64 q ∧ q ≤ n ∧ Hid (Tk w wr B hv hn' hq (.slice (some ⟨g3, 0, none⟩) (mn + 1) c3) m1 m2 (us ++ (P.take q).map (·.x)) (ms ++ [.slice va n vc]) (ls ++ (P.take q).map (fun p => p.e.ops.map opEl)) (ns ++ [el]))) (fun i _ => n - (intOf i).toNat)
  case atStart => exact ⟨0, hv, rfl, Nat.zero_le _, by
    have h9 := HTK0
    rw [show us = us ++ (P.take 0).map (·.x) by simp, show ls = ls ++ (P.take 0).map (fun p => p.e.ops.map opEl) by simp] at h9
    exact h9⟩
  case round =>
    obtain ⟨q, hq, rfl, hqn, HI⟩ := hrel
    by_cases hlt : q < n
    · have hqi : (q : Int) < (n : Int) := by omega
      obtain ⟨x, hx⟩ : ∃ x, P[q]? = some x := ⟨P[q]'(by rw [HN.out]; exact hlt), List.getElem?_eq_getElem _⟩
      have hEr := ents_bo H0.out HE.out HI.out.chg
      have hrowE : wr.ownsRow 0 38 6 (.slice va n vc) n (rowCs PEnt.cells P) := by
        have h9 := hEr.row
        rw [HN.out] at h9
        exact h9
      obtain ⟨gb, hgb⟩ : ∃ g, va = some ⟨g, 0, none⟩ := by
        rcases hrowE.2 with ⟨h1, h0⟩ | ⟨g, cap, cur, h1, _⟩
        · omega
        · simp only [Value.slice.injEq] at h1; exact ⟨g, h1.1⟩
      subst hgb
      have g5 : wr.cell? ⟨gb, q * 6 + 5, none⟩ = some x.x := by
        refine cell_n hrowE ?_
        have h1 := rowCs_at pent_len P q 5 x x.x hx rfl []
        rw [List.append_nil] at h1
        exact h1
      have HXO : Hid (OwnOps wr x.x x.e.ops) := hEr.ops x (List.mem_of_getElem? hx)
      obtain ⟨xa, xc, hxv, -, -⟩ := owns_form HXO.out
      obtain ⟨xn, hxn⟩ : ∃ z, x.e.ops.length = z := ⟨_, rfl⟩
      rw [hxn] at hxv
      rw [hxv] at g5
      have HXV : Hid (x.x = .slice xa xn xc) := hxv
      have HX : Hid (P[q]? = some x) := hx
      have hlU : (us ++ (P.take q).map (·.x)).length = un + q := by rw [List.length_append, HMN.out.2, List.length_map, List.length_take, HN.out]; omega
      obtain ⟨US, hUS⟩ : ∃ z, us ++ (P.take q).map (·.x) = z := ⟨_, rfl⟩
      rw [hUS] at hlU HI
      have HUS : Hid (us ++ (P.take q).map (·.x) = US ∧ US.length = un + q) := ⟨hUS, hlU⟩
      have HRU : Hid (wr.ownsRow 0 36 1 hq (un + q) US) := by
        have h9 : wr.ownsRow 0 36 1 hq US.length US := HI.out.bo.hr
        rw [hlU] at h9
        exact h9
      obtain ⟨ha, hc, hhq, _⟩ := row_form HRU.out
      subst hhq
      obtain ⟨c0, c1, c2, c3'⟩ := cells_4 HI.out.bo.box
      have f0 := free_of HI.out.bo.box
      have HBL : Hid (B < wr.heap.size) := lt_of_blk HI.out.bo.box
      have hBl : B < wr.heap.size := HBL.out
      have hgl : gb < wr.heap.size := (row_block hrowE gb rfl).2
      have HQ : Hid (q < n) := hlt
      obtain ⟨W0, rfl⟩ : ∃ z, z = wr := ⟨_, rfl⟩
      have hby : (un + q + 1) * 24 ≤ 140737488355328 := by omega
      have hold : ∀ ob o, (W0.alloc ob).cell? ⟨B, o, none⟩ = W0.cell? ⟨B, o, none⟩ := fun ob o => ((Below.refl W0.heap.size W0).alloc (Nat.le_refl _) ob).cell (p := ⟨B, o, none⟩) hBl
      clear hEr hrowE hxv hxn hx hUS hlU hlt
      go_upto_region 4 with fail
      go_region_law
        (first
        | (refine step_row Try.underlying42 Try.infoOps rfl (by decide) rfl (.tmp 25) (.tmp 31) rfl 0 (.slice ha (un + q) hc) (un + q) US (by simp [Act.eval, Act.put]) (owns_below HRU.out ((below_drew (Below.refl _ _)).alloc (Nat.le_refl _) _)) W0.heap.size 1 [.slice xa xn xc] (by simp [Act.eval, Act.put]) (heap_alloc_new W0.drew _) rfl (by simp [Value.oneCell']) (by unfold maxLen; omega) hby (Nat.zero_le _) ?_
           intro v7 w7 hd7 hg7 ho7
           have hal : Below W0.heap.size W0 (W0.drew.alloc (.cells #[.slice xa xn xc] 36)) := (below_drew (Below.refl _ _)).alloc (Nat.le_refl _) _
           obtain ⟨g7, k7, hv7⟩ := row_some hd7
           subst hv7
           have HD7 : Hid (w7.ownsRow 0 36 1 (.slice (some ⟨g7, 0, none⟩) (un + q + 1) k7) (un + q + 1) (US ++ [.slice xa xn xc])) := hd7
           have HG7 : Hid ((W0.drew.alloc (.cells #[.slice xa xn xc] 36)).grownBy w7 (Value.slice ha (un + q) hc).ownBlock ∧ Below W0.heap.size W0 (W0.drew.alloc (.cells #[.slice xa xn xc] 36))) := ⟨hg7, hal⟩
           have HO7 : Hid (∀ b, (Value.slice (some ⟨g7, 0, none⟩) (un + q + 1) k7).ownBlock = some b → (Value.slice ha (un + q) hc).ownBlock = some b ∨ W0.heap.size ≤ b) := fun b hb => by
             rcases ho7 with e | e
             · rw [e] at hb; exact .inl hb
             · rw [e] at hb; cases hb; exact .inr hal.size
           have HBX7 : Hid (w7.heap[B]? = some (.cells #[.slice ha (un + q) hc, m1, .slice (some ⟨g3, 0, none⟩) (mn + 1) c3, m2] 44 (0, 0))) := by
             have h9 := kept_block hal HI.out.bo.box
             refine ((Chg.grown hg7).block B (lt_of_blk h9) (fun e => ?_)).trans h9
             exact kind_box (owns_below HI.out.bo.hr hal) e h9 (by decide) rfl
           have d0 := (cells_4 HBX7.out).1
           have fd := free_of HBX7.out
           clear hd7 hg7 ho7 hal)
        | fail)
      all_goals
        have HI8 : Hid (Tk w (w7.setCell ⟨B, 0, none⟩ (.slice (some ⟨g7, 0, none⟩) (un + q + 1) k7)) B hv hn' (.slice (some ⟨g7, 0, none⟩) (un + q + 1) k7) (.slice (some ⟨g3, 0, none⟩) (mn + 1) c3) m1 m2 (us ++ (P.take (q + 1)).map (·.x)) (ms ++ [.slice (some ⟨gb, 0, none⟩) n vc]) (ls ++ (P.take (q + 1)).map (fun p => p.e.ops.map opEl)) (ns ++ [el])) := by
          have hp := Bo.pushV2 (l := x.e.ops.map opEl) (u := .slice xa xn xc) HI.out.bo (by rw [fl_opE, List.length_map, ← HXV.out]; exact HXO.out) (fun b hb hF => ?_) HG7.out.2 (by rw [HUS.out.2]; exact HD7.out) HG7.out.1
          · rw [HUS.out.2] at hp
            rw [take_at HX.out, List.map_append, List.map_append, ← List.append_assoc, ← List.append_assoc, HUS.out.1]
            have e1 : ([x] : List PEnt).map (·.x) = [.slice xa xn xc] := by rw [List.map_cons, List.map_nil, HXV.out]
            rw [e1]
            refine ⟨hp.1, ?_, fun b hb => ?_, HI.out.newN⟩
            · have hc9 := hp.2
              exact ⟨hc9.os.trans HI.out.chg.os, hc9.tape.trans HI.out.chg.tape, hc9.output.trans HI.out.chg.output, Nat.le_trans HI.out.chg.size hc9.size, fun i hi hs => (hc9.block i (Nat.lt_of_lt_of_le hi HI.out.chg.size) (fun e => by
                rcases e with e | e
                · exact hs (.inl e)
                · rcases HI.out.newV i e with e | e
                  · exact hs (.inr (.inl e))
                  · omega)).trans (HI.out.chg.block i hi hs)⟩
            · rcases HO7.out b hb with e | e
              · exact HI.out.newV b e
              · exact .inr (Nat.le_trans HI.out.chg.size e)
          · obtain ⟨k, u, hu, hub⟩ := hF
            rw [← HUS.out.1] at hu
            rw [← HXV.out] at hb
            have hmu := List.mem_of_getElem? hu
            rcases List.mem_append.1 hmu with hm1 | hm1
            · obtain ⟨k', hk'⟩ := List.getElem?_of_mem hm1
              exact HU1.out x (List.mem_of_getElem? HX.out) b hb ⟨k', u, hk', hub⟩
            · obtain ⟨p, hp1, rfl⟩ := List.mem_map.1 hm1
              obtain ⟨k', hk'⟩ := List.getElem?_of_mem hp1
              have hk2 := (List.getElem?_eq_some_iff.1 hk').1
              rw [List.length_take] at hk2
              rw [List.getElem?_take, if_pos (by omega)] at hk'
              have := HND.out k' q p x b hk' HX.out hub hb
              omega
        go_wp2_with fail
        go_roundw
        case rel => exact ⟨q + 1, _, by go_num, HQ.out, HI8⟩
        case measure => have := HQ.out; simp [intOf]; omega
    · obtain rfl : q = n := by omega
      have hge : ¬ (q : Int) < (q : Int) := by omega
      rw [List.take_of_length_le (Nat.le_of_eq HN.out)] at HI
      go_wp2_with fail
      go_end0
      exact ⟨rfl, hq, _, el, HI.out, by rw [HEL.out, HN.out]⟩
end Go.Proofs.Ytnmengoefpdaiaa.I
