/-
  view: stands.
-/
import Derived.Test.YtlbhnlpdijhmlabVSame
import Derived.Test.YtlbhnlpdijhmlabVStep
namespace Go.Proofs.Ytlbhnlpdijhmlab
open Go.RowKit
set_option linter.unusedVariables false
set_option linter.unusedSimpArgs false

/-- A service, and what is the law's own beside it. -/
structure Bs (At : World → (Nat → Prop) → SvT → Value → Prop) (w0 : World) (K0 : Nat → Prop) (w : World) (K : Nat → Prop) (V : SvT) (p : Value) : Prop where
  at' : At w K V p
  chg : Chg w0 w K0
  new : ∀ j, K j → K0 j ∨ w0.heap.size ≤ j
theorem Bs.call {At : World → (Nat → Prop) → SvT → Value → Prop} {w0 w w' : World} {K0 K : Nat → Prop} {V V' : SvT} {p : Value} (h : Bs At w0 K0 w K V p) (he : SvE At w K V' p w') : ∃ K', Bs At w0 K0 w' K' V' p := by
  obtain ⟨K', h1, h2, h3⟩ := he
  refine ⟨K', h1, ?_, fun j hj => (h3 j hj).elim (h.new j) (fun hh => .inr (Nat.le_trans h.chg.size hh))⟩
  exact ⟨h2.os.trans h.chg.os, h2.tape.trans h.chg.tape, h2.output.trans h.chg.output, Nat.le_trans h.chg.size h2.size, fun j hj hn => by
    rw [h2.block j (Nat.lt_of_lt_of_le hj h.chg.size) (fun e => (h.new j e).elim hn (fun hh => by omega))]
    exact h.chg.block j hj hn⟩
theorem Bs.on {At : World → (Nat → Prop) → SvT → Value → Prop} (sv : Serves At) {w0 w w' : World} {K0 K : Nat → Prop} {V : SvT} {p : Value} (h : Bs At w0 K0 w K V p) (hb : Below w.heap.size w w') : Bs At w0 K0 w' K V p :=
  ⟨sv.keep h.at' (Kp.of_below hb _), h.chg.trans (Chg.of_below hb _), h.new⟩
/-- A service, its document's box d beside it, the list u that All told, and the document's list v. -/
structure Sn (At : World → (Nat → Prop) → SvT → Value → Prop) (w0 : World) (K0 : Nat → Prop) (w : World) (K : Nat → Prop) (V : SvT) (p : Value) (d : Nat) (v u : Value) (S : Nat → Prop) : Prop where
  bs : Bs At w0 K0 w K V p
  box : w.heap[d]? = some (.cells #[.int .i64 V.nodes, v, .bool V.set] 30 (0, 0))
  nk : ¬ K d
  own : VwsAt w S v V.l
  sep : ∀ j, j < w.heap.size → S j → ¬ K j
  tol : VwsAt w (fun j => j < w.heap.size ∧ ¬ K j) u V.l
theorem Sn.call {At : World → (Nat → Prop) → SvT → Value → Prop} {w0 w w' : World} {K0 K : Nat → Prop} {V : SvT} {p : Value} {d : Nat} {v u : Value} {S : Nat → Prop} (h : Sn At w0 K0 w K V p d v u S) (he : SvE At w K V p w') : ∃ K', Sn At w0 K0 w' K' V p d v u (fun j => S j ∧ j < w.heap.size) := by
  obtain ⟨K', h1, h2, h3⟩ := he
  have hbs : Bs At w0 K0 w' K' V p := by
    refine ⟨h1, ?_, fun j hj => (h3 j hj).elim (h.bs.new j) (fun hh => .inr (Nat.le_trans h.bs.chg.size hh))⟩
    exact ⟨h2.os.trans h.bs.chg.os, h2.tape.trans h.bs.chg.tape, h2.output.trans h.bs.chg.output, Nat.le_trans h.bs.chg.size h2.size, fun j hj hn => by
      rw [h2.block j (Nat.lt_of_lt_of_le hj h.bs.chg.size) (fun e => (h.bs.new j e).elim hn (fun hh => by omega))]
      exact h.bs.chg.block j hj hn⟩
  have hd := lt_of_blk h.box
  refine ⟨K', hbs, by rw [h2.block d hd h.nk]; exact h.box, fun hk => (h3 d hk).elim h.nk (fun hh => by omega), ?_, fun j hj hS hk => (h3 j hk).elim (h.sep j hS.2 hS.1) (fun hh => by have := hS.2; omega), ?_⟩
  · exact VwsAt.mono (VwsAt.keep (S := fun j => S j ∧ j < w.heap.size) (VwsAt.mono h.own (fun j hj hS => ⟨hS, hj⟩)) (Kp.of_chg h2 (fun j hj hS => h.sep j hj hS.1))) (fun _ _ h => h)
  · refine VwsAt.mono (VwsAt.keep h.tol (Kp.of_chg h2 (fun j hj hS => hS.2))) (fun j hj hS => ⟨hj, fun hk => (h3 j hk).elim hS.2 (fun hh => by have := hS.1; omega)⟩)
theorem Sn.on {At : World → (Nat → Prop) → SvT → Value → Prop} (sv : Serves At) {w0 w w' : World} {K0 K : Nat → Prop} {V : SvT} {p : Value} {d : Nat} {v u : Value} {S : Nat → Prop} (h : Sn At w0 K0 w K V p d v u S) (hb : Below w.heap.size w w') : Sn At w0 K0 w' K V p d v u (fun j => S j ∧ j < w.heap.size) := by
  have hlt := sv.lt h.bs.at'
  refine ⟨h.bs.on sv hb, kept_block hb h.box, h.nk, VwsAt.keep (S := fun j => S j ∧ j < w.heap.size) (VwsAt.mono h.own (fun j hj hS => ⟨hS, hj⟩)) (Kp.of_below hb _), fun j hj hS => h.sep j hS.2 hS.1, VwsAt.mono (VwsAt.keep h.tol (Kp.of_below hb _)) (fun j hj hS => ⟨hj, hS.2⟩)⟩
theorem Sn.st {At : World → (Nat → Prop) → SvT → Value → Prop} {w0 w : World} {K0 K : Nat → Prop} {V : SvT} {p : Value} {d : Nat} {v u : Value} {S : Nat → Prop} (h : Sn At w0 K0 w K V p d v u S) : w.cell? ⟨d, 0, none⟩ = some (.int .i64 V.nodes) ∧ w.cell? ⟨d, 1, none⟩ = some v ∧ w.cell? ⟨d, 2, none⟩ = some (.bool V.set) := cells_3 h.box
set_option maxHeartbeats 12800000 in
set_option maxRecDepth 100000 in
theorem stands_any {At : World → (Nat → Prop) → SvT → Value → Prop} (sv : Serves At) (w : World) (K0 : Nat → Prop) (V : SvT) (p : Value) (v : Value) (S : Nat → Prop) (h : At w K0 V p) (hv : VwsAt w S v V.l) (hs : ∀ j, j < w.heap.size → S j → ¬ K0 j) :
    Calls Try.prog 8 #[p, svV V.nodes v V.set] w fun e w' => e = .returned (.bool true) ∧ SvE At w K0 V p w' := by
  have hok := sv.ok h
  obtain ⟨W, hW⟩ : ∃ W, w.alloc (.cells #[.int .i64 V.nodes, v, .bool V.set] 30) = W := ⟨_, rfl⟩
  obtain ⟨d, hd⟩ : ∃ d, w.heap.size = d := ⟨_, rfl⟩
  have hB : Below w.heap.size w W := by rw [← hW]; exact (Below.refl _ _).alloc (Nat.le_refl _) _
  have hx : W.heap[d]? = some (.cells #[.int .i64 V.nodes, v, .bool V.set] 30 (0, 0)) := by rw [← hW, ← hd]; exact heap_alloc_new _ _
  have hlt := sv.lt h
  have HW : Hid (w.alloc (.cells #[.int .i64 V.nodes, v, .bool V.set] 30) = W) := hW
  have H1 : Hid (Bs At w K0 W K0 V p) := ⟨sv.keep h (Kp.of_below hB _), Chg.of_below hB _, fun j hj => .inl hj⟩
  have HX : Hid (W.heap[d]? = some (.cells #[.int .i64 V.nodes, v, .bool V.set] 30 (0, 0)) ∧ ¬ K0 d) := ⟨hx, fun hk => by have := hlt d hk; omega⟩
  have HV : Hid (VwsAt W (fun j => S j ∧ j < w.heap.size) v V.l ∧ ∀ j, S j ∧ j < w.heap.size → ¬ K0 j) := ⟨VwsAt.keep (VwsAt.mono hv (fun j hj hS => ⟨hS, hj⟩)) (Kp.of_below hB _), fun j hS => hs j hS.2 hS.1⟩
  have HOK : Hid (V.l.length ≤ 401) := hok.len
  clear h hv hs hok hW hB hx hlt
  go_enter Try.func8, Try.ntmps8
  go_upto_region 1 with fail
  rw [HW.out]
  clear hd
  go_wp2_with fail
  refine Calls.mono (sv.all W K0 V p H1.out.at') ?_
  rintro e w1 ⟨u, K1, rfl, hu, h1, hc1, hn1⟩
  have H2 : Hid (∃ S1, Sn At w K0 w1 K1 V p d v u S1) := by
    have hdd := lt_of_blk HX.out.1
    obtain ⟨K', hb⟩ := H1.out.call ⟨K1, h1, hc1, hn1⟩
    refine ⟨fun j => S j ∧ j < w.heap.size, ⟨h1, ?_, fun j hj => ?_⟩, by rw [hc1.block d hdd HX.out.2]; exact HX.out.1, fun hk => (hn1 d hk).elim HX.out.2 (fun hh => by omega), VwsAt.keep HV.out.1 (Kp.of_chg hc1 (fun j _ hS => HV.out.2 j hS)), fun j hj hS hk => ?_, VwsAt.mono hu (fun j hj hS => ⟨hj, hS.2⟩)⟩
    · exact hb.chg
    · exact (hn1 j hj).elim .inl (fun hh => .inr (Nat.le_trans H1.out.chg.size hh))
    · exact (hn1 j hk).elim (HV.out.2 j hS) (fun hh => by have := H1.out.chg.size; have := hS.2; omega)
  clear hu h1 hc1 hn1
  obtain ⟨S1, h2⟩ := H2.out
  have H3 : Hid (Sn At w K0 w1 K1 V p d v u S1) := h2
  obtain ⟨ua, uc, rfl, -⟩ := RowAt.form h2.tol
  clear h2 H2 H1 HV HX
  go_wp2_with fail
  obtain ⟨w2, hw2⟩ : ∃ w2, w1.drew = w2 := ⟨_, rfl⟩
  have H4 : Hid (Sn At w K0 w2 K1 V p d v (.slice ua V.l.length uc) (fun j => S1 j ∧ j < w1.heap.size)) := by rw [← hw2]; exact H3.out.on sv (below_drew (Below.refl _ _))
  refine wp_region_held_drew (S := (fun w' => w'.cell? ⟨d, 0, none⟩ = some (.int .i64 V.nodes) ∧ w'.cell? ⟨d, 1, none⟩ = some v ∧ w'.cell? ⟨d, 2, none⟩ = some (.bool V.set))) (by kernel_rfl) (by rw [hw2]; exact H4.out.st) (fun hHeld => ?_)
  rw [hw2] at hHeld ⊢
  clear hw2 H3
  refine wpAnyH_take (i := 0) (v := ?_) rfl (by kernel_rfl) (by kernel_rfl) (by kernel_rfl) (fun _ _ _ h => h) ?_ hHeld ?_
  rotate_left
  · refine Or.inl ⟨by rfl, ?_⟩; intro w hSw; obtain ⟨hh0, hh1, hh2⟩ := hSw; go_simp <;> with_reducible rfl
  try simp only [List.getElem_toArray, List.getElem_cons_succ, List.getElem_cons_zero, Act.put, List.setIfInBounds_toArray, List.set_cons_zero, List.set_cons_succ]
  refine wpAnyH_take (i := 2) (v := ?_) rfl (by kernel_rfl) (by kernel_rfl) (by kernel_rfl) (fun _ _ _ h => h) ?_ hHeld ?_
  rotate_left
  · refine Or.inl ⟨by rfl, ?_⟩; intro w hSw; obtain ⟨hh0, hh1, hh2⟩ := hSw; go_simp <;> with_reducible rfl
  try simp only [List.getElem_toArray, List.getElem_cons_succ, List.getElem_cons_zero, Act.put, List.setIfInBounds_toArray, List.set_cons_zero, List.set_cons_succ]
  refine wpAnyH_ready (rs := [1]) (by kernel_rfl) (by simp) ?_
  refine AllReadyH.cons rfl (fun K hK => ?_) AllReadyH.nil
  refine step_callx (by rfl) 12 _ _ (by rfl) (fun _ _ => by rfl) [p] (by rfl) (sv.now w2 K1 V p H4.out.bs.at') ?_
  rintro e w3 ⟨rfl, he3⟩
  obtain ⟨K3, h3⟩ := H4.out.call he3
  obtain ⟨S3, hS3⟩ : ∃ S3 : Nat → Prop, (fun j => (S1 j ∧ j < w1.heap.size) ∧ j < w2.heap.size) = S3 := ⟨_, rfl⟩
  rw [hS3] at h3
  have H5 : Hid (Sn At w K0 w3 K3 V p d v (.slice ua V.l.length uc) S3) := h3
  clear he3 h3 H4 hS3
  refine ⟨_, rfl, hK.out _ _ H5.out.st (fun hHeld => ?_)⟩
  clear hK K
  try simp only [List.getElem_toArray, List.getElem_cons_succ, List.getElem_cons_zero, Act.put, List.setIfInBounds_toArray, List.set_cons_zero, List.set_cons_succ]
  refine wpAnyH_ready (rs := [3]) (by kernel_rfl) (by simp) ?_
  refine AllReadyH.cons rfl (fun K hK => ?_) AllReadyH.nil
  refine step_callx (by rfl) 15 _ _ (by rfl) (fun _ _ => by rfl) [svV V.nodes v V.set] (by rfl) (refNow_any V.nodes v V.set V.l w3 S3 H5.out.own HOK.out) ?_
  rintro e w4 ⟨rfl, hb4⟩
  obtain ⟨S4, hS4⟩ : ∃ S4 : Nat → Prop, (fun j => S3 j ∧ j < w3.heap.size) = S4 := ⟨_, rfl⟩
  have h4 := H5.out.on sv hb4
  rw [hS4] at h4
  have H6 : Hid (Sn At w K0 w4 K3 V p d v (.slice ua V.l.length uc) S4) := h4
  clear hb4 h4 H5 hS4
  refine ⟨_, rfl, hK.out _ _ H6.out.st (fun hHeld => ?_)⟩
  clear hK K
  try simp only [List.getElem_toArray, List.getElem_cons_succ, List.getElem_cons_zero, Act.put, List.setIfInBounds_toArray, List.set_cons_zero, List.set_cons_succ]
  refine wpAnyH_take (i := 4) (v := ?_) rfl (by kernel_rfl) (by kernel_rfl) (by kernel_rfl) (fun _ _ _ h => h) ?_ hHeld ?_
  rotate_left
  · refine Or.inl ⟨by rfl, ?_⟩; intro w hSw; obtain ⟨hh0, hh1, hh2⟩ := hSw; go_simp <;> with_reducible rfl
  try simp only [List.getElem_toArray, List.getElem_cons_succ, List.getElem_cons_zero, Act.put, List.setIfInBounds_toArray, List.set_cons_zero, List.set_cons_succ]
  refine wpAnyH_take (i := 5) (v := ?_) rfl (by kernel_rfl) (by kernel_rfl) (by kernel_rfl) (fun _ _ _ h => h) ?_ hHeld ?_
  rotate_left
  · refine Or.inl ⟨by rfl, ?_⟩; intro w hSw; obtain ⟨hh0, hh1, hh2⟩ := hSw; go_simp <;> with_reducible rfl
  try simp only [List.getElem_toArray, List.getElem_cons_succ, List.getElem_cons_zero, Act.put, List.setIfInBounds_toArray, List.set_cons_zero, List.set_cons_succ]
  refine wpAnyH_take (i := 6) (v := ?_) rfl (by kernel_rfl) (by kernel_rfl) (by kernel_rfl) (fun _ _ _ h => h) ?_ hHeld ?_
  rotate_left
  · refine Or.inl ⟨by rfl, ?_⟩; intro w hSw; obtain ⟨hh0, hh1, hh2⟩ := hSw; go_simp <;> with_reducible rfl
  try simp only [List.getElem_toArray, List.getElem_cons_succ, List.getElem_cons_zero, Act.put, List.setIfInBounds_toArray, List.set_cons_zero, List.set_cons_succ]
  refine wpAnyH_take (i := 8) (v := ?_) rfl (by kernel_rfl) (by kernel_rfl) (by kernel_rfl) (fun _ _ _ h => h) ?_ hHeld ?_
  rotate_left
  · refine Or.inl ⟨by rfl, ?_⟩; intro w hSw; obtain ⟨hh0, hh1, hh2⟩ := hSw; go_simp <;> with_reducible rfl
  try simp only [List.getElem_toArray, List.getElem_cons_succ, List.getElem_cons_zero, Act.put, List.setIfInBounds_toArray, List.set_cons_zero, List.set_cons_succ]
  refine wpAnyH_take (i := 9) (v := ?_) rfl (by kernel_rfl) (by kernel_rfl) (by kernel_rfl) (fun _ _ _ h => h) ?_ hHeld ?_
  rotate_left
  · refine Or.inl ⟨by rfl, ?_⟩; intro w hSw; obtain ⟨hh0, hh1, hh2⟩ := hSw; go_simp <;> with_reducible rfl
  try simp only [List.getElem_toArray, List.getElem_cons_succ, List.getElem_cons_zero, Act.put, List.setIfInBounds_toArray, List.set_cons_zero, List.set_cons_succ]
  refine wpAnyH_ready (rs := [7]) (by kernel_rfl) (by simp) ?_
  refine AllReadyH.cons rfl (fun K hK => ?_) AllReadyH.nil
  refine step_callx (by rfl) 13 _ _ (by rfl) (fun _ _ => by rfl) [p] (by rfl) (sv.settled w4 K3 V p H6.out.bs.at') ?_
  rintro e w5 ⟨rfl, he5⟩
  obtain ⟨K5, h5⟩ := H6.out.call he5
  obtain ⟨S5, hS5⟩ : ∃ S5 : Nat → Prop, (fun j => S4 j ∧ j < w4.heap.size) = S5 := ⟨_, rfl⟩
  rw [hS5] at h5
  have H7 : Hid (Sn At w K0 w5 K5 V p d v (.slice ua V.l.length uc) S5) := h5
  clear he5 h5 H6 hS5
  refine ⟨_, rfl, hK.out _ _ H7.out.st (fun hHeld => ?_)⟩
  clear hK K
  try simp only [List.getElem_toArray, List.getElem_cons_succ, List.getElem_cons_zero, Act.put, List.setIfInBounds_toArray, List.set_cons_zero, List.set_cons_succ]
  refine wpAnyH_take (i := 10) (v := ?_) rfl (by kernel_rfl) (by kernel_rfl) (by kernel_rfl) (fun _ _ _ h => h) ?_ hHeld ?_
  rotate_left
  · refine Or.inl ⟨by rfl, ?_⟩; intro w hSw; obtain ⟨hh0, hh1, hh2⟩ := hSw; go_simp <;> with_reducible rfl
  try simp only [List.getElem_toArray, List.getElem_cons_succ, List.getElem_cons_zero, Act.put, List.setIfInBounds_toArray, List.set_cons_zero, List.set_cons_succ]
  refine wpAnyH_take (i := 11) (v := ?_) rfl (by kernel_rfl) (by kernel_rfl) (by kernel_rfl) (fun _ _ _ h => h) ?_ hHeld ?_
  rotate_left
  · refine Or.inl ⟨by rfl, ?_⟩; intro w hSw; obtain ⟨hh0, hh1, hh2⟩ := hSw; go_simp <;> with_reducible rfl
  try simp only [List.getElem_toArray, List.getElem_cons_succ, List.getElem_cons_zero, Act.put, List.setIfInBounds_toArray, List.set_cons_zero, List.set_cons_succ]
  refine wpAnyH_take (i := 12) (v := ?_) rfl (by kernel_rfl) (by kernel_rfl) (by kernel_rfl) (fun _ _ _ h => h) ?_ hHeld ?_
  rotate_left
  · refine Or.inl ⟨by rfl, ?_⟩; intro w hSw; obtain ⟨hh0, hh1, hh2⟩ := hSw; go_simp <;> with_reducible rfl
  try simp only [List.getElem_toArray, List.getElem_cons_succ, List.getElem_cons_zero, Act.put, List.setIfInBounds_toArray, List.set_cons_zero, List.set_cons_succ]
  refine wpAnyH_take (i := 13) (v := ?_) rfl (by kernel_rfl) (by kernel_rfl) (by kernel_rfl) (fun _ _ _ h => h) ?_ hHeld ?_
  rotate_left
  · refine Or.inl ⟨by rfl, ?_⟩; intro w hSw; obtain ⟨hh0, hh1, hh2⟩ := hSw; go_simp <;> with_reducible rfl
  try simp only [List.getElem_toArray, List.getElem_cons_succ, List.getElem_cons_zero, Act.put, List.setIfInBounds_toArray, List.set_cons_zero, List.set_cons_succ]
  refine wpAnyH_take (i := 14) (v := ?_) rfl (by kernel_rfl) (by kernel_rfl) (by kernel_rfl) (fun _ _ _ h => h) ?_ hHeld ?_
  rotate_left
  · refine Or.inl ⟨by rfl, ?_⟩; intro w hSw; obtain ⟨hh0, hh1, hh2⟩ := hSw; go_simp <;> with_reducible rfl
  try simp only [List.getElem_toArray, List.getElem_cons_succ, List.getElem_cons_zero, Act.put, List.setIfInBounds_toArray, List.set_cons_zero, List.set_cons_succ]
  refine wpAnyH_take (i := 15) (v := ?_) rfl (by kernel_rfl) (by kernel_rfl) (by kernel_rfl) (fun _ _ _ h => h) ?_ hHeld ?_
  rotate_left
  · refine Or.inl ⟨by rfl, ?_⟩; intro w hSw; obtain ⟨hh0, hh1, hh2⟩ := hSw; go_simp <;> with_reducible rfl
  try simp only [List.getElem_toArray, List.getElem_cons_succ, List.getElem_cons_zero, Act.put, List.setIfInBounds_toArray, List.set_cons_zero, List.set_cons_succ]
  refine wpAnyH_ready (rs := [16]) (by kernel_rfl) (by simp) ?_
  refine AllReadyH.cons rfl (fun K hK => ?_) AllReadyH.nil
  refine step_callx (by rfl) 16 _ _ (by rfl) (fun _ _ => by rfl) [.slice ua V.l.length uc, v] (by rfl) (views_same (.slice ua V.l.length uc) v V.l w5 _ S5 H7.out.tol H7.out.own HOK.out) ?_
  rintro e w6 ⟨rfl, hb6⟩
  have h6 := H7.out.on sv hb6
  have H8 : Hid (Sn At w K0 w6 K5 V p d v (.slice ua V.l.length uc) _) := h6
  clear hb6 h6 H7
  refine ⟨_, rfl, hK.out _ _ H8.out.st (fun hHeld => ?_)⟩
  clear hK K
  try simp only [List.getElem_toArray, List.getElem_cons_succ, List.getElem_cons_zero, Act.put, List.setIfInBounds_toArray, List.set_cons_zero, List.set_cons_succ]
  refine wpAnyH_take (i := 17) (v := ?_) rfl (by kernel_rfl) (by kernel_rfl) (by kernel_rfl) (fun _ _ _ h => h) ?_ hHeld ?_
  rotate_left
  · refine Or.inl ⟨by rfl, ?_⟩; intro w hSw; obtain ⟨hh0, hh1, hh2⟩ := hSw; go_simp <;> with_reducible rfl
  try simp only [List.getElem_toArray, List.getElem_cons_succ, List.getElem_cons_zero, Act.put, List.setIfInBounds_toArray, List.set_cons_zero, List.set_cons_succ]
  refine wpAnyH_ready (rs := [18]) (by kernel_rfl) (by simp) ?_
  refine AllReadyH.cons rfl (fun K hK => ?_) AllReadyH.nil
  go_simp
  refine hK.out _ _ hHeld (fun hHeld => ?_)
  clear hK K
  try simp only [List.getElem_toArray, List.getElem_cons_succ, List.getElem_cons_zero, Act.put, List.setIfInBounds_toArray, List.set_cons_zero, List.set_cons_succ]
  refine wpAnyH_done (by kernel_rfl) ?_ _
  go_wp2_with fail
  go_ret
  exact ⟨by simp, K5, H8.out.bs.at', H8.out.bs.chg, H8.out.bs.new⟩
end Go.Proofs.Ytlbhnlpdijhmlab
