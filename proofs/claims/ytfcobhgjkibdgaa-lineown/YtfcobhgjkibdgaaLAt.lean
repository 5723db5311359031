/-
  line: Send; the landed line keeps the contracts.
-/
import Derived.Test.YtfcobhgjkibdgaaLSpl
namespace Go.Proofs.Ytfcobhgjkibdgaa
open Go.RowKit Go.Maps
set_option linter.unusedVariables false
set_option linter.unusedSimpArgs false

theorem make0A (n : Nat) (hn : n ≤ 1000000) (w : World) : ∃ W, (Instr.makeSlice 28 (.int .i64 0) (.int .i64 n)).run Try.prog w = .ok (.slice (some ⟨w.heap.size, 0, none⟩) 0 n) W ∧ W.ownsRow w.heap.size 3 1 (.slice (some ⟨w.heap.size, 0, none⟩) 0 n) 0 [] ∧ Below w.heap.size w W := by
  obtain ⟨M, hM, hmk0⟩ := make0 n hn
  exact ⟨_, hmk0 w, World.ownsRow_made w M n (Nat.le_refl _) (by unfold maxLen; omega) (by omega), (Below.refl _ _).alloc (Nat.le_refl _) _⟩
/-- Send between two messages. -/
structure SnI (w0 w : World) (K0 K : Nat → Prop) (L : LnT) (p nv : Value) (ns : List Int) : Prop where
  nums : InsOwn w w0.heap.size nv ns
  apart : ∀ j, nv.ownBlock = some j → ¬ K j
  line : LnE AtL w0 K0 L p w K
theorem SnI.at {w0 w w' : World} {K0 K : Nat → Prop} {L : LnT} {p nv : Value} {ns : List Int} (h : SnI w0 w K0 K L p nv ns) (hb : Below w.heap.size w w') : SnI w0 w' K0 K L p nv ns :=
  ⟨owns_below h.nums hb, h.apart, LnE.then (L1 := L) h.line hb⟩
theorem SnI.put {w0 w w' : World} {K0 K K' : Nat → Prop} {L L' : LnT} {p nv : Value} {ns : List Int} (h : SnI w0 w K0 K L p nv ns) (hE : LnE AtL w K L' p w' K') : SnI w0 w' K0 K' L' p nv ns := by
  refine ⟨row_chg h.nums hE.chg h.apart, fun j hj hk => ?_, hE.at', ?_, fun j hj => ?_⟩
  · rcases hE.new j hk with h1 | h1
    · exact h.apart j hj h1
    · have := (row_block h.nums j hj).2
      omega
  · have hc := h.line.chg
    have k := hE.chg
    exact ⟨k.os.trans hc.os, k.tape.trans hc.tape, k.output.trans hc.output, Nat.le_trans hc.size k.size, fun i hi hs => (k.block i (Nat.lt_of_lt_of_le hi hc.size) (fun e => by rcases h.line.new i e with h1 | h1; exact hs h1; omega)).trans (hc.block i hi hs)⟩
  · rcases hE.new j hj with h1 | h1
    · exact h.line.new j h1
    · exact .inr (Nat.le_trans h.line.chg.size h1)
theorem SnI.push {w0 w w' : World} {K0 K : Nat → Prop} {L : LnT} {p nv nv' : Value} {ns : List Int} {x : Int} (h : SnI w0 w K0 K L p nv ns) (hr : w'.ownsRow w0.heap.size 3 1 nv' (ns.length + 1) (ns.map (.int .i64 ·) ++ [.int .i64 x])) (hgr : w.grownBy w' nv.ownBlock) (ho : nv'.ownBlock = nv.ownBlock ∨ nv'.ownBlock = some w.heap.size) : SnI w0 w' K0 K L p nv' (ns ++ [x]) := by
  have hc := Chg.grown hgr
  refine ⟨?_, fun j hj hk => ?_, h.line.at'.keep (Kp.of_chg hc (fun j _ hk e => h.apart j e hk)), ?_, h.line.new⟩
  · show World.ownsRow _ _ _ _ _ _ _
    rw [List.length_append, List.map_append]
    exact hr
  · rcases ho with ho | ho
    · rw [ho] at hj; exact h.apart j hj hk
    · rw [ho] at hj; cases hj; have := h.line.at'.lt _ hk; omega
  · exact chg_kn h.line.chg hc (fun j e => .inr (row_block h.nums j e).1)
set_option maxHeartbeats 3200000 in
set_option maxRecDepth 100000 in
theorem sendL_at (w : World) (K : Nat → Prop) (L : LnT) (p v : Value) (l : List MsT) (P : Nat → Prop) (h : AtL w K L p) (hok : L.Ok) (hm : MssAt w P v l) (hPK : ∀ j, P j → ¬ K j) (hsm : ∀ m ∈ l, m.b.size ≤ 600) (hg : L.gv + l.length ≤ MaxG) (hl : l.length ≤ 1000) :
    Calls Try.prog 11 #[p, v] w fun e w' => ∃ u K', e = .returned u ∧ InsOwn w' w.heap.size u (L.send l).2 ∧ (∀ j, u.ownBlock = some j → ¬ K' j) ∧ LnE AtL w K (L.send l).1 p w' K' := by
  obtain ⟨ma, mc, rfl, _⟩ := RowAt.form hm
  obtain ⟨mn, hmn⟩ : ∃ z, l.length = z := ⟨_, rfl⟩
  rw [hmn] at hm hg hl ⊢
  obtain ⟨W, hmk, hrow, hbW⟩ := make0A mn (by omega) w
  have HS0 : Hid (SnI w W K K L p (.slice (some ⟨w.heap.size, 0, none⟩) 0 mn) []) := ⟨hrow, fun j hj hk => (by have h1 := h.lt j hk; have h2 := (row_block hrow j hj).1; omega), h.below hbW⟩
  have HMN : Hid (l.length = mn) := hmn
  have HMS : Hid (MssAt w (fun j => j < w.heap.size ∧ P j) (.slice ma mn mc) l) := RowAt.map hm (Nat.le_refl _) (fun b hb hP => ⟨hb, hP⟩) (fun _ _ _ _ _ h => h)
  have HPK : Hid (∀ j, P j → ¬ K j) := hPK
  have HOK : Hid L.Ok := hok
  have HSM : Hid (∀ m ∈ l, m.b.size ≤ 600) := hsm
  have HGV : Hid (L.gv + mn ≤ MaxG) := hg
  clear hrow hbW hmn h hm hok hPK hsm hg
  go_enter Try.func11, Try.ntmps11
  go_wp2_with fail
  go_loopw [5, 7, 8, 9, 15] (fun nv _ _ _ i wr => ∃ (q : Nat) (Kq : Nat → Prop), i = .int .i64 q ∧ q ≤ mn ∧ Hid (SnI w wr K Kq (L.send (l.take q)).1 p nv (L.send (l.take q)).2)) (fun _ _ _ _ i _ => mn - (intOf i).toNat)
  case atStart => exact ⟨0, K, rfl, Nat.zero_le _, HS0⟩
  case round =>
    obtain ⟨q, Kq, rfl, hq, HI⟩ := hrel
    by_cases hlt : q < mn
    · have hqi : (q : Int) < (mn : Int) := by omega
      obtain ⟨x, hx⟩ : ∃ x, l[q]? = some x := ⟨l[q]'(by rw [HMN.out]; exact hlt), List.getElem?_eq_getElem _⟩
      obtain ⟨mb, mo, rfl, ⟨hmb, hmP⟩, _, hE⟩ := RowAt.get HMS.out hx
      obtain ⟨Lq, hLq⟩ : ∃ z, L.send (l.take q) = z := ⟨_, rfl⟩
      have hlen : Lq.2.length = q := by rw [← hLq, send_len, List.length_take, HMN.out]; omega
      have hgq : Lq.1.gv + 1 ≤ MaxG := by
        have := send_gv (l.take q) L
        rw [hLq, List.length_take, HMN.out] at this
        have := HGV.out
        omega
      have hokq : Lq.1.Ok := by rw [← hLq]; exact LnT.Ok.send HOK.out (fun m hm => HSM.out m (List.mem_of_mem_take hm))
      rw [hLq] at HI
      have hxs := HSM.out x (List.mem_of_getElem? hx)
      have HP : Hid (∀ w', Below wr.heap.size wr w' → _) := fun w' hb => put_at w' Kq Lq.1 p x false (HI.out.line.at'.keep (Kp.of_below hb _)) hokq hgq (Nat.le_trans hxs (by decide))
      obtain ⟨PP, hPP⟩ : ∃ z, Lq.1.put x false = z := ⟨_, rfl⟩
      have hneg := put_neg Lq.1 x false
      have hcs : putR Lq.1 = (0, 46) ∨ ∃ N, putR Lq.1 = (N, 0) := by rcases putR_cases Lq.1 with h | h; exact .inl h; exact .inr ⟨_, h⟩
      rw [hPP] at hneg
      rw [hPP] at HP
      obtain ⟨R, hR⟩ : ∃ z, putR Lq.1 = z := ⟨_, rfl⟩
      rw [hR] at hneg hcs HP
      have HN : Hid (L.send (l.take (q + 1)) = (PP.1, Lq.2 ++ [PP.2])) := by show _ = _; rw [take_at hx, send_snoc, hLq, hPP]
      have hblk : wr.heap[mb]? = w.heap[mb]? := HI.out.line.chg.block mb hmb (HPK.out mb hmP)
      have k : ∀ {o v}, w.cell? ⟨mb, o, none⟩ = some v → wr.cell? ⟨mb, o, none⟩ = some v := fun hv => by rw [World.cell?_of_block (w := w) hblk]; exact hv
      obtain ⟨x0, x1, x2⟩ : _ ∧ _ ∧ _ := ⟨k hE.f, k hE.t, k hE.b⟩
      have HLN : Hid (Lq.2.length = q) := hlen
      have HQL : Hid (q + 1 ≤ mn) := hlt
      have hbr := HI.out.line.at'
      have hptr := hbr.ptr
      obtain ⟨pp, hpp⟩ : ∃ o, p = .pointer o := by rcases hptr with h | ⟨b, h⟩ <;> exact ⟨_, h⟩
      obtain ⟨f, t, d⟩ := x
      simp only at x0 x1 x2 HP
      subst hpp
      clear hx hE hlen hgq hokq hLq hPP hR hxs hblk k hbr hptr hmb hmP hlt
      obtain ⟨W2, hW2⟩ : ∃ z, wr.alloc (.cells #[.int .i64 f, .int .i64 t, .string d] 23) = z := ⟨_, rfl⟩
      have hb2 : Below wr.heap.size wr W2 := by rw [← hW2]; exact (Below.refl _ _).alloc (Nat.le_refl _) _
      have HW2 : Hid (_ = W2) := hW2
      obtain ⟨g, hg⟩ : ∃ z, wr.heap.size = z := ⟨_, rfl⟩
      have HG : Hid (wr.heap.size = g) := hg
      have HX : Hid (W2.heap[g]? = some (.cells #[.int .i64 f, .int .i64 t, .string d] 23 (0, 0))) := by show _ = _; rw [← hW2, ← hg]; exact heap_alloc_new _ _
      have HB2 : Hid (Below wr.heap.size wr W2) := hb2
      clear hb2 hW2 hg
      go_upto_region 5 with fail
      rw [HW2.out, HG.out]
      clear x0 x1 x2
      obtain ⟨x0, x1, x2⟩ := cells_3 HX.out
      go_wp2_with fail
      refine Calls.mono (HP.out _ HB2.out) ?_
      rintro e w3 ⟨K3, rfl, hE3⟩
      have HI3 : Hid (SnI w w3 K K3 PP.1 (.pointer pp) u5 Lq.2) := (HI.out.at HB2.out).put hE3
      clear hE3 x0 x1 x2
      have HR3 : Hid (w3.ownsRow w.heap.size 3 1 u5 q (Lq.2.map (.int .i64 ·))) := by
        have h9 : w3.ownsRow w.heap.size 3 1 u5 Lq.2.length (Lq.2.map (.int .i64 ·)) := HI3.out.nums
        rw [HLN.out] at h9
        exact h9
      have HSZ : Hid (w.heap.size ≤ w3.heap.size) := HI3.out.line.chg.size
      have go_on : ∀ (w4 : World) (nv' : Value), w4.ownsRow w.heap.size 3 1 nv' (q + 1) (Lq.2.map (.int .i64 ·) ++ [.int .i64 PP.2]) → (w3.alloc (.cells #[.int .i64 PP.2] 3)).grownBy w4 u5.ownBlock → (nv'.ownBlock = u5.ownBlock ∨ nv'.ownBlock = some (w3.heap.size + 1)) → SnI w w4 K K3 (L.send (l.take (q + 1))).1 (.pointer pp) nv' (L.send (l.take (q + 1))).2 := fun w4 nv' hr hgr ho => by
        rw [HN.out]
        exact (HI3.out.at ((Below.refl _ _).alloc (Nat.le_refl _) _)).push (by rw [HLN.out]; exact hr) hgr (by simpa using ho)
      have GO : Hid _ := go_on
      clear go_on
      rcases hcs with hcs | ⟨N, hcs⟩
      · rw [hcs] at hneg ⊢
        have hneg : PP.2 = -1 := by rw [hneg]; rfl
        rw [hneg] at GO
        go_wp2_with (first
          | (at_builtin; go_loud (refine wpList_row Try.underlying28 Try.info_int rfl (by decide) rfl _ _ rfl w.heap.size u5 q (Lq.2.map (.int .i64 ·)) rfl (World.ownsRow.alloc HR3.out _) w3.heap.size 1 [.int .i64 (-1)] rfl (heap_alloc_new _ _) rfl (by simp [Value.oneCell']) (by unfold maxLen; omega) (by omega) (by rw [World.size_alloc]; have := HSZ.out; omega) ?_)
             intro v4 w4 hown4 hg4 ho4)
          | fail)
        have HI4 := GO.out w4 v4 hown4 hg4 (by simpa using ho4)
        go_roundw
        case rel => exact ⟨q + 1, K3, by go_num, HQL.out, HI4⟩
        case measure => simp [intOf]; omega
      · rw [hcs] at hneg ⊢
        have hneg : PP.2 = N := by rw [hneg]; rfl
        rw [hneg] at GO
        go_wp2_with (first
          | (at_builtin; go_loud (refine wpList_row Try.underlying28 Try.info_int rfl (by decide) rfl _ _ rfl w.heap.size u5 q (Lq.2.map (.int .i64 ·)) rfl (World.ownsRow.alloc HR3.out _) w3.heap.size 1 [.int .i64 N] rfl (heap_alloc_new _ _) rfl (by simp [Value.oneCell']) (by unfold maxLen; omega) (by omega) (by rw [World.size_alloc]; have := HSZ.out; omega) ?_)
             intro v4 w4 hown4 hg4 ho4)
          | fail)
        have HI4 := GO.out w4 v4 hown4 hg4 (by simpa using ho4)
        go_roundw
        case rel => exact ⟨q + 1, K3, by go_num, HQL.out, HI4⟩
        case measure => simp [intOf]; omega
    · obtain rfl : q = mn := by omega
      have hge : ¬ (q : Int) < (q : Int) := by omega
      rw [List.take_of_length_le (Nat.le_of_eq HMN.out)] at HI
      go_wp2_with fail
      go_ret
      exact ⟨_, rfl, HI.out.nums, Kq, HI.out.apart, HI.out.line⟩
theorem lines : Lines AtL where
  keep := AtL.keep
  lt := AtL.lt
  sort := AtL.sort
  nil := fun w => .inl ⟨rfl, rfl, fun _ h => h⟩
  new := new_at
  send := sendL_at
  take := takeL_at
  look := fun w K L p n h hok hn => (lookL_at w K L p n h hok hn).mono (by rintro e w' ⟨rfl, hb⟩; exact ⟨K, rfl, h.below hb⟩)
  double := double_at
  spoil := spoilL_at
  numbers := numbers_at
end Go.Proofs.Ytfcobhgjkibdgaa
