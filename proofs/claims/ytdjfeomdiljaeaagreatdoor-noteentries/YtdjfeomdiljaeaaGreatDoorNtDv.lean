import Derived.Test.YtdjfeomdiljaeaaGreatDoorNtIo
import Derived.Test.YtdjfeomdiljaeaaGreatDoorNtE1
import Derived.Test.YtdjfeomdiljaeaaGreatDoorNtDf
namespace Go.Proofs.YtdjfeomdiljaeaaGreatDoor
open Go.RowKit
set_option linter.unusedVariables false
set_option linter.unusedSimpArgs false

abbrev VwT := Int × Int × Int
abbrev vwV (t : VwT) : Value := .agg #[.int .i64 t.1, .int .i64 t.2.1, .int .i64 t.2.2]
abbrev vwL (t : VwT) : List Int := nmL t.1 ++ (nmL t.2.1 ++ nmL t.2.2)
abbrev vwG (t : VwT) : Prop := inN t.1 ∧ inN t.2.1 ∧ inN t.2.2
set_option maxHeartbeats 3200000 in
set_option maxRecDepth 100000 in
theorem rd_view (w0 : World) (br : Nat) (a : Option Addr) (c : Nat) (xs : List Int) (p : Nat) (w : World) (hc : RdC w0 br a c xs) (h : RdS 78 w0 w br a c xs p) :
    Calls Tryz.prog 129 #[.pointer (some ⟨br, 0, none⟩)] w (RdE w0 br a c xs p vwL vwG vwV noP w) := by
  obtain ⟨w1, hw1⟩ : ∃ w1, w.alloc (.cells #[.int .i64 0, .int .i64 0, .int .i64 0] 42) = w1 := ⟨_, rfl⟩
  have HW : Hid (w.alloc (.cells #[.int .i64 0, .int .i64 0, .int .i64 0] 42) = w1) := hw1
  have HB1 : Hid (Below w.heap.size w w1) := by rw [← hw1]; exact (Below.refl _ _).alloc (Nat.le_refl _) _
  have HX0 : Hid (w1.heap[w.heap.size]? = some (.cells #[.int .i64 0, .int .i64 0, .int .i64 0] 42 (0, 0))) := by show _ = _; rw [← hw1]; exact heap_alloc_new _ _
  have HR0 : Hid (RdS 78 w0 w1 br a c xs p) := h.ext HB1.out
  have HCH0 : Hid (Chg w w1 (fun j => j = br)) := Chg.of_below HB1.out _
  have HC : Hid (RdC w0 br a c xs) := hc
  have HGE : Hid (w0.heap.size ≤ w.heap.size) := h.chg.size
  have HNE : Hid (w.heap.size ≠ br) := by show _ ≠ _; have := hc.lt; have := h.chg.size; omega
  clear hw1 hc h
  go_enter Tryz.func129, Tryz.ntmps129
  go_upto_region 1 with fail
  rw [HW.out]
  go_wp2_with (first
    | (have hq := HR2; clear hq; go_at_call 64; refine Calls.mono (rd_number w0 br a c xs q2 _ HC.out HR2.out) ?_
       rintro e w4 (⟨x2, q3, rfl, hg, hs, hr, hch, hpp⟩ | ⟨rfl, hno, hch⟩)
       rotate_left
       · refine ⟨rfl, .inr ⟨rfl, fun y r hy hd => ?_, HCH2.out.trans hch⟩⟩
         exact by
           obtain ⟨hy0, hy1, hy2⟩ := hy
           unfold vwL at hd
           simp only [List.append_assoc] at hd
           rw [HS0.out.1] at hd
           have hd := (nm_pre HG0.out hy0 hd).2
           rw [HS1.out.1] at hd
           have hd := (nm_pre HG1.out hy1 hd).2
           exact hno y.2.2 _ (hy2) hd
       have HG2 : Hid _ := hg
       have HS2 : Hid _ := hs
       have HP2 : Hid _ := hpp
       have HR3 : Hid (RdS 78 w0 w4 br a c xs q3) := hr
       have HCH3 : Hid (Chg w w4 (fun j => j = br)) := HCH2.out.trans hch
       have HX3 : Hid (w4.heap[w.heap.size]? = some (.cells #[.int .i64 0, .int .i64 0, .int .i64 0] 42 (0, 0))) := by show _ = _; rw [hch.block _ (lt_of_blk HX2.out) HNE.out]; exact HX2.out
       clear hg hs hr hch hpp)
    | (have hq := HR1; clear hq; go_at_call 64; refine Calls.mono (rd_number w0 br a c xs q1 _ HC.out HR1.out) ?_
       rintro e w3 (⟨x1, q2, rfl, hg, hs, hr, hch, hpp⟩ | ⟨rfl, hno, hch⟩)
       rotate_left
       · refine ⟨rfl, .inr ⟨rfl, fun y r hy hd => ?_, HCH1.out.trans hch⟩⟩
         exact by
           obtain ⟨hy0, hy1, hy2⟩ := hy
           unfold vwL at hd
           simp only [List.append_assoc] at hd
           rw [HS0.out.1] at hd
           have hd := (nm_pre HG0.out hy0 hd).2
           exact hno y.2.1 _ (hy1) hd
       have HG1 : Hid _ := hg
       have HS1 : Hid _ := hs
       have HP1 : Hid _ := hpp
       have HR2 : Hid (RdS 78 w0 w3 br a c xs q2) := hr
       have HCH2 : Hid (Chg w w3 (fun j => j = br)) := HCH1.out.trans hch
       have HX2 : Hid (w3.heap[w.heap.size]? = some (.cells #[.int .i64 0, .int .i64 0, .int .i64 0] 42 (0, 0))) := by show _ = _; rw [hch.block _ (lt_of_blk HX1.out) HNE.out]; exact HX1.out
       clear hg hs hr hch hpp)
    | (have hq := HR0; clear hq; go_at_call 64; refine Calls.mono (rd_number w0 br a c xs p _ HC.out HR0.out) ?_
       rintro e w2 (⟨x0, q1, rfl, hg, hs, hr, hch, hpp⟩ | ⟨rfl, hno, hch⟩)
       rotate_left
       · refine ⟨rfl, .inr ⟨rfl, fun y r hy hd => ?_, HCH0.out.trans hch⟩⟩
         exact by
           obtain ⟨hy0, hy1, hy2⟩ := hy
           unfold vwL at hd
           simp only [List.append_assoc] at hd
           exact hno y.1 _ (hy0) hd
       have HG0 : Hid _ := hg
       have HS0 : Hid _ := hs
       have HP0 : Hid _ := hpp
       have HR1 : Hid (RdS 78 w0 w2 br a c xs q1) := hr
       have HCH1 : Hid (Chg w w2 (fun j => j = br)) := HCH0.out.trans hch
       have HX1 : Hid (w2.heap[w.heap.size]? = some (.cells #[.int .i64 0, .int .i64 0, .int .i64 0] 42 (0, 0))) := by show _ = _; rw [hch.block _ (lt_of_blk HX0.out) HNE.out]; exact HX0.out
       clear hg hs hr hch hpp)
    | (refine wpList_store_row rfl 42 _ _ rfl w.heap.size #[.int .i64 x0, .int .i64 x1, .int .i64 x2] rfl rfl 42 _ HX3.out (by kernel_rfl) rfl (by first | kernel_rfl | (simp; rfl) | simp [Value.oneCell']) ?_)
    | fail)
  refine bodyPost_ret (results_cell1 rfl _ _ w.heap.size 42 _ (0, 0) _ rfl (row_setA HX3.out) Tryz.underlying42 rfl (by kernel_rfl)) rfl ?_
  have hlow : Below w.heap.size w4 (w4.setRow w.heap.size #[.int .i64 x0, .int .i64 x1, .int .i64 x2]) := (row_chgA HX3.out).below (Nat.le_of_lt (lt_of_blk HX3.out)) (fun k _ e => by omega)
  refine .inl ⟨(x0, x1, x2), q3, rfl, ⟨HG0.out, HG1.out, HG2.out⟩, ?_, HR3.out.row HX3.out HGE.out HC.out.lt, HCH3.out.low hlow (Nat.le_refl _), trivial⟩
  exact Sd.trans HS0.out (Sd.trans HS1.out (HS2.out))
abbrev setView (N : NoN) (t : VwT) : NoN := { N with num := t.1, pri := t.2.1, bak := t.2.2 }
theorem NB.view {W : World} {b : Nat} {N : NoN} {t : VwT} (h : NB W b N) : NB (((W.setCell ⟨b, 1, none⟩ (.int .i64 t.1)).setCell ⟨b, 2, none⟩ (.int .i64 t.2.1)).setCell ⟨b, 3, none⟩ (.int .i64 t.2.2)) b (setView N t) :=
  same_blk (same_blk (same_blk h rfl) rfl) rfl
theorem chg3 (W : World) (b : Nat) (v1 v2 v3 : Value) : Chg W (((W.setCell ⟨b, 1, none⟩ v1).setCell ⟨b, 2, none⟩ v2).setCell ⟨b, 3, none⟩ v3) (fun j => j = b) := by
  have h1 : Chg W (W.setCell ⟨b, 1, none⟩ v1) (fun j => j = b) := Chg.set W ⟨b, 1, none⟩ v1
  have h2 : Chg (W.setCell ⟨b, 1, none⟩ v1) ((W.setCell ⟨b, 1, none⟩ v1).setCell ⟨b, 2, none⟩ v2) (fun j => j = b) := Chg.set _ ⟨b, 2, none⟩ v2
  have h3 : Chg ((W.setCell ⟨b, 1, none⟩ v1).setCell ⟨b, 2, none⟩ v2) (((W.setCell ⟨b, 1, none⟩ v1).setCell ⟨b, 2, none⟩ v2).setCell ⟨b, 3, none⟩ v3) (fun j => j = b) := Chg.set _ ⟨b, 3, none⟩ v3
  exact (h1.trans h2).trans h3
theorem keep3 {W : World} {b s : Nat} {v v1 v2 v3 : Value} (h : W.cell? ⟨s, 0, none⟩ = some v) (hne : s ≠ b) : (((W.setCell ⟨b, 1, none⟩ v1).setCell ⟨b, 2, none⟩ v2).setCell ⟨b, 3, none⟩ v3).cell? ⟨s, 0, none⟩ = some v := cellO_1 (cellO_1 (cellO_1 h hne) hne) hne
def VwEnd (w0 : World) (br : Nat) (a : Option Addr) (c : Nat) (xs : List Int) (p : Nat) (N : NoN) (b : Nat) (W : World) (e : Ending) (w' : World) : Prop :=
  (∃ (z : VwT) (q : Nat), e = .returned (.tuple #[]) ∧ vwG z ∧ Sd xs p (vwL z) q ∧ RdS 78 w0 w' br a c xs q ∧ NB w' b (setView N z) ∧ Chg W w' (fun j => j = br ∨ j = b)) ∨ (e = .panicked PN ∧ (∀ z r, vwG z → xs.drop p ≠ vwL z ++ r) ∧ Chg W w' (fun j => j = br ∨ j = b))
set_option maxHeartbeats 3200000 in
theorem rdt_view (W : World) (b s t br : Nat) (a : Option Addr) (c : Nat) (xs : List Int) (p : Nat) (N : NoN) (w0 : World) (hN : NB W b N) (hs : W.cell? ⟨s, 0, none⟩ = some (.func (.func 126) #[] #[])) (ht : W.cell? ⟨t, 0, none⟩ = some (.func (.func 129) #[] #[]))
    (hc : RdC w0 br a c xs) (h : RdS 78 w0 W br a c xs p) (hge : w0.heap.size ≤ b) (hsb : s ≠ br) (htb : t ≠ br) (hsb2 : s ≠ b) (htb2 : t ≠ b) :
    Calls Tryz.prog 181 #[.pointer (some ⟨br, 0, none⟩), .pointer (some ⟨b, 0, none⟩), .pointer (some ⟨t, 0, none⟩), .pointer (some ⟨s, 0, none⟩)] W (VwEnd w0 br a c xs p N b W) := by
  have HN : Hid (NB W b N) := hN
  have HNE : Hid (b ≠ br) := by show _ ≠ _; have := hc.lt; omega
  have HR : Hid (∀ W', Below W.heap.size W W' → Calls Tryz.prog 129 #[.pointer (some ⟨br, 0, none⟩)] W' (RdE w0 br a c xs p vwL vwG vwV noP W')) := fun W' hb' => rd_view w0 br a c xs p W' hc (h.ext hb')
  have HLT : Hid (br < w0.heap.size) := hc.lt
  clear hN hc h
  go_enter Tryz.func181, Tryz.ntmps181
  go_region_held2 (fun V => V.cell? ⟨s, 0, none⟩ = some (.func (.func 126) #[] #[]) ∧ V.cell? ⟨t, 0, none⟩ = some (.func (.func 129) #[] #[]))
    (first
    | exact ⟨hs, ht⟩
    | exact ⟨keep3 hs1 hsb2, keep3 ht1 htb2⟩
    | go_keep)
    (first
    | (go_at_call 126; refine Calls.mono (at_view.says _ b) ?_; rintro e w2 ⟨rfl, hw2⟩; rw [hw2]; clear hw2)
    | (go_at_call 129; refine Calls.mono (HR.out _ (by first | exact Below.refl _ _ | exact below_drew (Below.refl _ _))) ?_
       rintro e w1 (⟨z, q, rfl, hg, hsd, hr, hch, _⟩ | ⟨rfl, hno, hch⟩)
       rotate_left
       · exact ⟨rfl, .inr ⟨rfl, hno, (Chg.drewN (Chg.refl _ _)).trans (hch.mono (fun _ _ e => .inl e))⟩⟩
       have HG : Hid (vwG z) := hg
       have HSD : Hid (Sd xs p (vwL z) q) := hsd
       have HRR : Hid (RdS 78 w0 w1 br a c xs q) := hr
       have HCH : Hid (Chg W w1 (fun j => j = br)) := (Chg.drewN (Chg.refl _ _)).trans hch
       have HN1 : Hid (NB w1 b N) := by
         show _ = _
         rw [HCH.out.block _ (lt_of_blk HN.out) HNE.out]
         exact HN.out
       have f3 := free_ofN HN1.out
       have k1 := HN1.out.cell (i := 1) rfl
       have k2 := HN1.out.cell (i := 2) rfl
       have k3 := HN1.out.cell (i := 3) rfl
       have hs1 : w1.cell? ⟨s, 0, none⟩ = some (.func (.func 126) #[] #[]) := by rw [show w1.cell? ⟨s, 0, none⟩ = W.cell? ⟨s, 0, none⟩ by unfold World.cell?; rw [HCH.out.block _ (World.block_lt_of_cell? _ _ hs) hsb]]; exact hs
       have ht1 : w1.cell? ⟨t, 0, none⟩ = some (.func (.func 129) #[] #[]) := by rw [show w1.cell? ⟨t, 0, none⟩ = W.cell? ⟨t, 0, none⟩ by unfold World.cell?; rw [HCH.out.block _ (World.block_lt_of_cell? _ _ ht) htb]]; exact ht
       clear hg hsd hr hch hs ht)
    | fail)
  have hlow : Below b w1 (((w1.setCell ⟨b, 1, none⟩ (.int .i64 z.1)).setCell ⟨b, 2, none⟩ (.int .i64 z.2.1)).setCell ⟨b, 3, none⟩ (.int .i64 z.2.2)) := (((Below.refl b w1).setCell (Nat.le_refl _) _).setCell (Nat.le_refl _) _).setCell (Nat.le_refl _) _
  have hchg : Chg W (((w1.setCell ⟨b, 1, none⟩ (.int .i64 z.1)).setCell ⟨b, 2, none⟩ (.int .i64 z.2.1)).setCell ⟨b, 3, none⟩ (.int .i64 z.2.2)) (fun j => j = br ∨ j = b) := (HCH.out.mono (fun _ _ e => .inl e)).trans ((chg3 w1 b _ _ _).mono (fun _ _ e => .inr e))
  exact bodyPost_end (results_none rfl _ _ _) rfl (.inl ⟨z, q, rfl, HG.out, HSD.out, HRR.out.low hlow hge HLT.out, NB.view HN1.out, hchg⟩)
end Go.Proofs.YtdjfeomdiljaeaaGreatDoor
namespace Go.Proofs.YtdjfeomdiljaeaaGreatDoor
open Go.RowKit
set_option linter.unusedVariables false
set_option linter.unusedSimpArgs false

def EncN (ok : Prop) (zs0 : List Int) (w : World) (e : Ending) (w' : World) : Prop := ∃ a c zs code, e = .returned (.tuple #[.slice a zs.length c, .int .i64 code]) ∧ (ok ∧ zs = zs0 ∧ code = 0 ∨ ¬ ok ∧ zs = [] ∧ code = 30) ∧ w'.ownsRow w.heap.size 5 1 (.slice a zs.length c) zs.length (bv zs) ∧ Below w.heap.size w w'
set_option maxHeartbeats 3200000 in
set_option maxRecDepth 100000 in
theorem enc_any (N : NoN) (k : Nat) (s : ByteArray) (ts : List WrT) (hk1 : 1 ≤ k) (hk2 : k < 25) (hs : kfT[k]? = some s) (hNK : N.K = k) (hts : wtS s = ts.map some) (hG : ChkP s N → ∀ t ∈ ts, t.2 N) (hl : 5 + (ts.flatMap (fun t => t.1 N)).length ≤ 1000000) (w : World) (hKb : ∀ w', Below w.heap.size w w' → KfAt w') (hA : N.At w) (hg : Ground w) :
    Calls Tryz.prog 20 #[.agg N.cl.toArray] w (EncN (ChkP s N) (nmL k ++ ts.flatMap (fun t => t.1 N)) w) := by
  obtain ⟨w1, hw1⟩ : ∃ w1, w.alloc (.cells N.cl.toArray 51) = w1 := ⟨_, rfl⟩
  have HW : Hid (w.alloc (.cells N.cl.toArray 51) = w1) := hw1
  have HB1 : Hid (Below w.heap.size w w1) := by rw [← hw1]; exact (Below.refl _ _).alloc (Nat.le_refl _) _
  have HN1 : Hid (NB w1 w.heap.size N) := by show _ = _; rw [← hw1]; exact heap_alloc_new _ _
  have HS1 : Hid (w1.heap.size = w.heap.size + 1) := by show _ = _; rw [← hw1]; simp
  have hb2 : Below w1.heap.size w1 (w1.alloc (.cells #[.int .i64 0] 28)) := (Below.refl _ _).alloc (Nat.le_refl _) _
  have hb3 := xtransN HB1.out hb2
  have HAns : Hid _ := ans_b 57 #[.pointer (some ⟨w.heap.size, 0, none⟩)] w1 (fun V w' => ChkP s N ∧ ∃ a c, V = .slice a (nmL k ++ ts.flatMap (fun t => t.1 N)).length c ∧ w'.ownsRow (w1.alloc (.cells #[.int .i64 0] 28)).heap.size 5 1 V (nmL k ++ ts.flatMap (fun t => t.1 N)).length (bv (nmL k ++ ts.flatMap (fun t => t.1 N)))) (fun _ => ¬ ChkP s N) Tryz.call57
    (enc2_any w.heap.size N k s ts hk1 hk2 hs hNK hts hG hl _ (hKb _ hb3) (fun w' hb => hKb w' (xtransN hb3 hb)) (kept_block hb2 HN1.out) (hA.below hb3) (hg.below hb3))
  obtain ⟨ok, hok⟩ : ∃ ok : Prop, ChkP s N = ok := ⟨_, rfl⟩
  obtain ⟨Z, hZ⟩ : ∃ Z, nmL k ++ ts.flatMap (fun t => t.1 N) = Z := ⟨_, rfl⟩
  obtain ⟨cs, hcs⟩ : ∃ cs, N.cl.toArray = cs := ⟨_, rfl⟩
  rw [hok, hZ] at HAns ⊢
  rw [hcs] at HW ⊢
  clear hw1 hb2 hb3 hA hKb hNK hts hG hl hg hs hok hZ hcs
  go_enter Tryz.func20, Tryz.ntmps20
  go_upto_region 1 with fail
  rw [HW.out]
  go_wp2_with (first
    | (go_at_call 23; refine Calls.mono HAns.out ?_
       rintro e w3 ⟨w4, hb4, hs4, hc4, ⟨V, ⟨hok, a, c, rfl, hrow⟩, rfl⟩ | ⟨hok, rfl⟩⟩)
    | fail)
  · refine bodyPost_ret (results_tmp2 rfl _ _ _) rfl ?_
    exact ⟨a, c, Z, 0, rfl, .inl ⟨hok, rfl, rfl⟩, owns_mono (row_keep hrow hc4 (fun k hk => by simp at hk; omega)) (by simp; have := HS1.out; omega), HB1.out.trans (trans_chg hb4 hc4 HS1.out)⟩
  · refine bodyPost_ret (results_tmp2 rfl _ _ _) rfl ?_
    exact ⟨none, 0, [], 30, rfl, .inr ⟨hok, rfl, rfl⟩, owns_none, HB1.out.trans (trans_chg hb4 hc4 HS1.out)⟩
end Go.Proofs.YtdjfeomdiljaeaaGreatDoor
namespace Go.Proofs.YtdjfeomdiljaeaaGreatDoor
open Go.RowKit
set_option linter.unusedVariables false
set_option linter.unusedSimpArgs false

theorem cell_kept {w w' : World} {S : Nat → Prop} {s : Nat} {v : Value} (h : w.cell? ⟨s, 0, none⟩ = some v) (hc : Chg w w' S) (hs : ¬ S s) : w'.cell? ⟨s, 0, none⟩ = some v := by
  rw [show w'.cell? ⟨s, 0, none⟩ = w.cell? ⟨s, 0, none⟩ by unfold World.cell?; rw [hc.block _ (World.block_lt_of_cell? _ _ h) hs]]
  exact h
theorem cell_diff {w : World} {s b : Nat} {v v' : Value} (h : w.cell? ⟨s, 0, none⟩ = some v) (h' : w.cell? ⟨b, 0, none⟩ = some v') (hne : v ≠ v') : s ≠ b := fun e => by
  subst e
  rw [h] at h'
  exact hne (Option.some.inj h')
theorem VwSh.chg {w w' : World} {x : RwN} {S : Nat → Prop} (h : VwSh w x) (hc : Chg w w' S) (hS : ∀ s F, w.cell? ⟨s, 0, none⟩ = some (.func F #[] #[]) → ¬ S s) : VwSh w' x := by
  obtain ⟨h1, h2, h5, h6, h7, s, t, h8, h9, h3, h4⟩ := h
  exact ⟨h1, h2, h5, h6, h7, s, t, h8, h9, cell_kept h3 hc (hS _ _ h3), cell_kept h4 hc (hS _ _ h4)⟩
theorem VwSh.ck {w : World} {x : RwN} (h : VwSh w x) : x.Ck w (fun N => nums [N.num, N.pri, N.bak]) (fun N => { N with num := 0, pri := 0, bak := 0 }) := by
  have HV : VwSh w x := h
  obtain ⟨h1, h2, h5, h6, h7, s, t, h8, h9, h3, h4⟩ := h
  refine ⟨?_, ?_, ?_, ?_, ?_, fun _ => HV⟩
  · rw [h2]; exact fun X W => Tryz.call127 X W
  · rw [h6]; exact fun X W => Tryz.call179 X W
  · intro W b N hb' hN hA hg
    rw [h2, h5]
    exact View_ck b N W hN hA hg
  · intro W b N hb' hN hl
    rw [h6, h8]
    exact emp_view W b s N hN (below_cell hb' h3)
  · intro u hu
    rw [h1] at hu
    cases (show (none : Option WrT) = some u from hu)
set_option maxHeartbeats 3200000 in
set_option maxRecDepth 100000 in
theorem rf_view (br nb : Nat) (a : Option Addr) (c : Nat) (xs : List Int) (p : Nat) (N : NoN) (fa : Option Addr) (fc : Nat) (x : FieldT) (w0 w : World) (hc : RdC w0 br a c xs) (h : RdS 78 w0 w br a c xs p) (hN : NB w nb N) (hge : w0.heap.size ≤ nb) (hX : RowC w fa 5 [x.1.cl]) (hV : VwSh w x.1) :
    Calls Tryz.prog 65 #[.pointer (some ⟨br, 0, none⟩), .pointer (some ⟨nb, 0, none⟩), .slice fa 1 fc] w (VwEnd w0 br a c xs p N nb w) := by
  obtain ⟨h1, h2, h5, h6, h7, s, t, h8, h9, h3, h4⟩ := hV
  have HN : Hid (NB w nb N) := hN
  have hd1 := cell_diff h3 (cells_2 h.box).1 (by intro e; cases e)
  have hd2 := cell_diff h4 (cells_2 h.box).1 (by intro e; cases e)
  have hd3 := cell_diff h3 (hN.cell (i := 0) rfl) (by intro e; cases e)
  have hd4 := cell_diff h4 (hN.cell (i := 0) rfl) (by intro e; cases e)
  have HRV : Hid (∀ W, Below w.heap.size w W → Calls Tryz.prog x.1.rF (#[.pointer (some ⟨br, 0, none⟩), .pointer (some ⟨nb, 0, none⟩)] ++ x.1.rC) W (VwEnd w0 br a c xs p N nb W)) := fun W hb => by
    rw [h7, h9]
    exact rdt_view W nb s t br a c xs p N w0 (kept_block hb hN) (by rw [hb.cell (p := ⟨s, 0, none⟩) (World.block_lt_of_cell? _ _ h3)]; exact h3) (by rw [hb.cell (p := ⟨t, 0, none⟩) (World.block_lt_of_cell? _ _ h4)]; exact h4) hc (h.ext hb) hge hd1 hd2 hd3 hd4
  have hir : ∀ (A : Array Value) (W : World), (callFunc x.1.rF A).run Tryz.prog W = .ok (.enter x.1.rF A) W := by rw [h7]; exact fun A W => Tryz.call181 A W
  have HX : Hid (RowC w fa 5 [x.1.cl]) := hX
  clear hc h hN hge hX h1 h2 h5 h6 h7 h8 h9 h3 h4 hd1 hd2 hd3 hd4
  go_enter Tryz.func65, Tryz.ntmps65
  go_wp2_with fail
  go_loopw [10] (fun iv wr => ∃ q : Nat, iv = .int .i64 q ∧ q ≤ 1 ∧ (q = 0 → wr = w) ∧ (q = 1 → Hid (VwEnd w0 br a c xs p N nb w (.returned (.tuple #[])) wr))) (fun iv _ => 1 - (intOf iv).toNat)
  case atStart => exact ⟨0, rfl, by omega, fun _ => rfl, fun h => by omega⟩
  case round =>
    obtain ⟨q, rfl, hq1, hq0, hqe⟩ := hrel
    by_cases hlt : q < 1
    · obtain rfl : q = 0 := by omega
      have hw : wr = w := hq0 rfl
      subst hw
      clear hq0 hqe
      obtain ⟨g, o, rfl, n0, n1, n2, n3, n4⟩ := HX.out.at5 (j := 0) rfl
      simp only [Nat.zero_mul, Nat.add_zero] at n0 n1 n2 n3 n4
      go_upto_region 3 with fail
      obtain ⟨h1, hh1⟩ : ∃ h1, wr.heap.size = h1 := ⟨_, rfl⟩
      obtain ⟨w1, hw1⟩ : ∃ w1, wr.alloc (.cells #[.string x.1.nm, .func (.func x.1.cF) #[] x.1.cC, .func (.func x.1.eF) #[] x.1.eC, .func (.func x.1.wF) #[] x.1.wC, .func (.func x.1.rF) #[] x.1.rC] 148) = w1 := ⟨_, rfl⟩
      have HB1 : Hid (Below wr.heap.size wr w1) := by rw [← hw1]; exact (Below.refl _ _).alloc (Nat.le_refl _) _
      have HF1 : Hid (w1.heap[h1]? = some (.cells #[.string x.1.nm, .func (.func x.1.cF) #[] x.1.cC, .func (.func x.1.eF) #[] x.1.eC, .func (.func x.1.wF) #[] x.1.wC, .func (.func x.1.rF) #[] x.1.rC] 148 (0, 0))) := by show _ = _; rw [← hw1, ← hh1]; exact heap_alloc_new _ _
      rw [hw1, hh1]
      clear hw1 hh1 n0 n1 n2 n3 n4
      obtain ⟨d0, d1, d2, d3, d4⟩ := cells_5N HF1.out
      go_wp2_with (first
        | (refine Calls.mono (HRV.out _ HB1.out) ?_
           rintro e w2 (⟨z, q2, rfl, hg, hsd, hr, hnb, hch⟩ | ⟨rfl, hno, hch⟩)
           rotate_left
           · exact ⟨rfl, .inr ⟨rfl, hno, (Chg.of_below HB1.out _).trans hch⟩⟩
           have HE : Hid (VwEnd w0 br a c xs p N nb wr (.returned (.tuple #[])) w2) := .inl ⟨z, q2, rfl, hg, hsd, hr, hnb, (Chg.of_below HB1.out _).trans hch⟩
           clear hg hsd hr hnb hch)
        | fail)
      go_roundw
      case rel => exact ⟨1, by go_num, by omega, fun h => by omega, fun _ => HE⟩
      case measure => simp [intOf]
    · obtain rfl : q = 1 := by omega
      have HE := hqe rfl
      clear hqe hq0
      go_wp2_with fail
      exact bodyPost_end (results_none rfl _ _ _) rfl HE.out
end Go.Proofs.YtdjfeomdiljaeaaGreatDoor
