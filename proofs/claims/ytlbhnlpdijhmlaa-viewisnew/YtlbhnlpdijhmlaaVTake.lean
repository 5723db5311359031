/-
  heraldref12: Take.
-/
import Derived.Test.YtlbhnlpdijhmlaaVProm
import Derived.Test.YtlbhnlpdijhmlaaVNote
namespace Go.Proofs.Ytlbhnlpdijhmlaa
open Go.RowKit
set_option linter.unusedVariables false
set_option linter.unusedSimpArgs false

/-- Notes in memory. -/
abbrev NosAt (w : World) (S : Nat → Prop) (v : Value) (l : List (List Value)) : Prop := RowAt w S 21 (fun b o ns => w.rangeAt b o ns) v l
theorem NosAt.keep {w w' : World} {S : Nat → Prop} {v : Value} {l : List (List Value)} (h : NosAt w S v l) (hk : Kp w w' S) : NosAt w' S v l :=
  RowAt.map h hk.size (fun _ _ hS => hS) (fun b o t hb hS e => fun j u hu => hk.cell hb hS (e j u hu))
theorem NosAt.mono {w : World} {S T : Nat → Prop} {v : Value} {l : List (List Value)} (h : NosAt w S v l) (hs : ∀ b, b < w.heap.size → S b → T b) : NosAt w T v l :=
  RowAt.map h (Nat.le_refl _) hs (fun b o t hb hS e => e)
/-- What a note is answered with. -/
theorem ask_end {w w2 Wf : World} {t : VwT} (hb : Wf.heap[w2.heap.size]? = some (.cells (tellCs t).toArray 47 (0, 0))) (hle : w.heap.size ≤ w2.heap.size) : NosAt Wf (fun j => w.heap.size ≤ j) (.slice (some ⟨w2.heap.size, 0, none⟩) 1 1) [tellCs t] :=
  ⟨_, 1, rfl, Nat.le_refl _, (fun h => by cases h), .inr ⟨w2.heap.size, 0, rfl, hle, lt_of_blk hb, fun i x hi => by
    match i, hi with
    | 0, hi =>
      obtain rfl : tellCs t = x := by simpa using hi
      rw [Nat.zero_mul, Nat.add_zero]
      exact range_of hb⟩⟩
def SvT.tells (V : SvT) (k : Int) : List (List Value) := if V.l ≠ [] ∧ k = 21 then [tellCs (lastV V.l)] else []
set_option maxHeartbeats 6400000 in
set_option maxRecDepth 100000 in
theorem refTake_nil (V : SvT) (v : Value) (from_ k nn : Int) (ns : List Value) (w : World) (S : Nat → Prop) (h : VwsAt w S v V.l) (hk : V.Ok) (hno : NoAt ns k nn) (he : V.l = []) :
    Calls Try.prog 37 #[svV V.nodes v V.set, .int .i64 from_, .agg ns.toArray] w fun e w' => e = .returned (.tuple #[svV V.nodes v V.set, .slice none 0 0]) ∧ Below w.heap.size w w' := by
  obtain ⟨va, vc, rfl, _⟩ := RowAt.form h
  obtain ⟨n, hn⟩ : ∃ n, V.l.length = n := ⟨_, rfl⟩
  obtain ⟨N, L, s⟩ := V
  simp only at h hn hk ⊢
  rw [hn] at h ⊢
  obtain ⟨W, hWW⟩ : ∃ W, ((w.alloc (.cells #[.int .i64 N, .slice va n vc, .bool s] 72)).alloc (.cells ns.toArray 47)).alloc (.cells #[.int .i64 0, .slice none 0 0, .bool false] 72) = W := ⟨_, rfl⟩
  have h3 := alloc3 (w := w) (a := #[.int .i64 N, .slice va n vc, .bool s]) (b := ns.toArray) (c := #[.int .i64 0, .slice none 0 0, .bool false]) (t := 72) (u := 47) (s := 72)
  rw [hWW] at h3
  obtain ⟨g, hg⟩ : ∃ g, w.heap.size = g := ⟨_, rfl⟩
  rw [hg] at h3
  obtain ⟨t0, t1, t2⟩ := cells_3 h3.1
  obtain ⟨r0, r1, r2⟩ := cells_3 h3.2.2.1
  have hr := range_of h3.2.1
  have c0 : W.cell? ⟨g + 1, 0, none⟩ = some (.int .i64 k) := hr 0 _ hno.k
  have c1 : W.cell? ⟨g + 1, 1, none⟩ = some (.int .i64 nn) := hr 1 _ hno.n
  have fr : ∀ o, W.frozen? ⟨g + 1 + 1, o, none⟩ = false := free_of h3.2.2.1
  have HX : Hid (W.heap[g]? = some (.cells #[.int .i64 N, .slice va n vc, .bool s] 72 (0, 0)) ∧ W.heap[g + 1 + 1]? = some (.cells #[.int .i64 0, .slice none 0 0, .bool false] 72 (0, 0))) := ⟨h3.1, h3.2.2.1⟩
  have HB : Hid (Below w.heap.size w W ∧ w.heap.size = g) := ⟨by rw [hg]; exact h3.2.2.2.1, hg⟩
  have HW : Hid (((w.alloc (.cells #[.int .i64 N, .slice va n vc, .bool s] 72)).alloc (.cells ns.toArray 47)).alloc (.cells #[.int .i64 0, .slice none 0 0, .bool false] 72) = W) := hWW
  have HV : Hid (VwsAt w S (.slice va n vc) L) := h
  have HN : Hid (L.length = n) := hn
  have HK : Hid ((⟨N, L, s⟩ : SvT).Ok) := hk
  clear h3 hr hWW h hno hn hk
  have hb0 : ((n : Int) == 0) = true := by have := HN.out; rw [show L = [] from he] at this; simp at this; simp [← this]
  clear he
  go_enter Try.func37, Try.ntmps37
  go_upto_region 1 with fail
  rw [HW.out]
  go_wp2_with fail
  exact bodyPost_ret (results_cell_tmp rfl _ _ (g + 1 + 1) 72 _ (0, 0) _ _ rfl rfl (fill_3 HX.out.2) Try.underlying72 rfl (by kernel_rfl)) rfl ⟨rfl, by have h9 := fillB_3 (g := g + 1 + 1) (x0 := .int .i64 N) (x1 := .slice va n vc) (x2 := .bool s) HB.out.1 (by rw [HB.out.2]; omega); rw [HB.out.2] at h9; exact h9⟩
set_option maxHeartbeats 6400000 in
set_option maxRecDepth 100000 in
theorem refTake_else (V : SvT) (v : Value) (from_ k nn : Int) (ns : List Value) (w : World) (S : Nat → Prop) (h : VwsAt w S v V.l) (hk : V.Ok) (hno : NoAt ns k nn) (he : V.l ≠ []) (k1 : k ≠ 21) (k3 : k ≠ 23) :
    Calls Try.prog 37 #[svV V.nodes v V.set, .int .i64 from_, .agg ns.toArray] w fun e w' => e = .returned (.tuple #[svV V.nodes v V.set, .slice none 0 0]) ∧ Below w.heap.size w w' := by
  obtain ⟨va, vc, rfl, _⟩ := RowAt.form h
  obtain ⟨n, hn⟩ : ∃ n, V.l.length = n := ⟨_, rfl⟩
  obtain ⟨N, L, s⟩ := V
  simp only at h hn hk ⊢
  rw [hn] at h ⊢
  obtain ⟨W, hWW⟩ : ∃ W, ((w.alloc (.cells #[.int .i64 N, .slice va n vc, .bool s] 72)).alloc (.cells ns.toArray 47)).alloc (.cells #[.int .i64 0, .slice none 0 0, .bool false] 72) = W := ⟨_, rfl⟩
  have h3 := alloc3 (w := w) (a := #[.int .i64 N, .slice va n vc, .bool s]) (b := ns.toArray) (c := #[.int .i64 0, .slice none 0 0, .bool false]) (t := 72) (u := 47) (s := 72)
  rw [hWW] at h3
  obtain ⟨g, hg⟩ : ∃ g, w.heap.size = g := ⟨_, rfl⟩
  rw [hg] at h3
  obtain ⟨t0, t1, t2⟩ := cells_3 h3.1
  obtain ⟨r0, r1, r2⟩ := cells_3 h3.2.2.1
  have hr := range_of h3.2.1
  have c0 : W.cell? ⟨g + 1, 0, none⟩ = some (.int .i64 k) := hr 0 _ hno.k
  have c1 : W.cell? ⟨g + 1, 1, none⟩ = some (.int .i64 nn) := hr 1 _ hno.n
  have fr : ∀ o, W.frozen? ⟨g + 1 + 1, o, none⟩ = false := free_of h3.2.2.1
  have HX : Hid (W.heap[g]? = some (.cells #[.int .i64 N, .slice va n vc, .bool s] 72 (0, 0)) ∧ W.heap[g + 1 + 1]? = some (.cells #[.int .i64 0, .slice none 0 0, .bool false] 72 (0, 0))) := ⟨h3.1, h3.2.2.1⟩
  have HB : Hid (Below w.heap.size w W ∧ w.heap.size = g) := ⟨by rw [hg]; exact h3.2.2.2.1, hg⟩
  have HW : Hid (((w.alloc (.cells #[.int .i64 N, .slice va n vc, .bool s] 72)).alloc (.cells ns.toArray 47)).alloc (.cells #[.int .i64 0, .slice none 0 0, .bool false] 72) = W) := hWW
  have HV : Hid (VwsAt w S (.slice va n vc) L) := h
  have HN : Hid (L.length = n) := hn
  have HK : Hid ((⟨N, L, s⟩ : SvT).Ok) := hk
  clear h3 hr hWW h hno hn hk
  have hb0 : ((n : Int) == 0) = false := by have := HN.out; have h9 := List.length_pos_iff.2 (show L ≠ [] from he); simp; omega
  have b1 : (k == 21) = false := by simpa using k1
  have b3 : (k == 23) = false := by simpa using k3
  clear he k1 k3
  go_enter Try.func37, Try.ntmps37
  go_upto_region 1 with fail
  rw [HW.out]
  go_wp2_with fail
  exact bodyPost_ret (results_cell_tmp rfl _ _ (g + 1 + 1) 72 _ (0, 0) _ _ rfl rfl (fill_3 HX.out.2) Try.underlying72 rfl (by kernel_rfl)) rfl ⟨rfl, by have h9 := fillB_3 (g := g + 1 + 1) (x0 := .int .i64 N) (x1 := .slice va n vc) (x2 := .bool s) HB.out.1 (by rw [HB.out.2]; omega); rw [HB.out.2] at h9; exact h9⟩
set_option maxHeartbeats 6400000 in
set_option maxRecDepth 100000 in
theorem refTake_set (V : SvT) (v : Value) (from_ k nn : Int) (ns : List Value) (w : World) (S : Nat → Prop) (h : VwsAt w S v V.l) (hk : V.Ok) (hno : NoAt ns k nn) (he : V.l ≠ []) (k3 : k = 23) :
    Calls Try.prog 37 #[svV V.nodes v V.set, .int .i64 from_, .agg ns.toArray] w fun e w' => e = .returned (.tuple #[svV V.nodes v (V.sett nn from_).set, .slice none 0 0]) ∧ Below w.heap.size w w' := by
  obtain ⟨va, vc, rfl, _⟩ := RowAt.form h
  obtain ⟨n, hn⟩ : ∃ n, V.l.length = n := ⟨_, rfl⟩
  obtain ⟨N, L, s⟩ := V
  simp only at h hn hk ⊢
  rw [hn] at h ⊢
  obtain ⟨W, hWW⟩ : ∃ W, ((w.alloc (.cells #[.int .i64 N, .slice va n vc, .bool s] 72)).alloc (.cells ns.toArray 47)).alloc (.cells #[.int .i64 0, .slice none 0 0, .bool false] 72) = W := ⟨_, rfl⟩
  have h3 := alloc3 (w := w) (a := #[.int .i64 N, .slice va n vc, .bool s]) (b := ns.toArray) (c := #[.int .i64 0, .slice none 0 0, .bool false]) (t := 72) (u := 47) (s := 72)
  rw [hWW] at h3
  obtain ⟨g, hg⟩ : ∃ g, w.heap.size = g := ⟨_, rfl⟩
  rw [hg] at h3
  obtain ⟨t0, t1, t2⟩ := cells_3 h3.1
  obtain ⟨r0, r1, r2⟩ := cells_3 h3.2.2.1
  have hr := range_of h3.2.1
  have c0 : W.cell? ⟨g + 1, 0, none⟩ = some (.int .i64 k) := hr 0 _ hno.k
  have c1 : W.cell? ⟨g + 1, 1, none⟩ = some (.int .i64 nn) := hr 1 _ hno.n
  have fr : ∀ o, W.frozen? ⟨g + 1 + 1, o, none⟩ = false := free_of h3.2.2.1
  have HX : Hid (W.heap[g]? = some (.cells #[.int .i64 N, .slice va n vc, .bool s] 72 (0, 0)) ∧ W.heap[g + 1 + 1]? = some (.cells #[.int .i64 0, .slice none 0 0, .bool false] 72 (0, 0))) := ⟨h3.1, h3.2.2.1⟩
  have HB : Hid (Below w.heap.size w W ∧ w.heap.size = g) := ⟨by rw [hg]; exact h3.2.2.2.1, hg⟩
  have HW : Hid (((w.alloc (.cells #[.int .i64 N, .slice va n vc, .bool s] 72)).alloc (.cells ns.toArray 47)).alloc (.cells #[.int .i64 0, .slice none 0 0, .bool false] 72) = W) := hWW
  have HV : Hid (VwsAt w S (.slice va n vc) L) := h
  have HN : Hid (L.length = n) := hn
  have HK : Hid ((⟨N, L, s⟩ : SvT).Ok) := hk
  clear h3 hr hWW h hno hn hk
  have hb0 : ((n : Int) == 0) = false := by have := HN.out; have h9 := List.length_pos_iff.2 (show L ≠ [] from he); simp; omega
  subst k3
  have HS : Hid (∀ w', Below w.heap.size w w' → Calls Try.prog 36 #[svV N (.slice va n vc) s, .int .i64 nn, .int .i64 from_] w' fun e w'' => e = .returned (.tuple #[svV N (.slice va n vc) ((⟨N, L, s⟩ : SvT).sett nn from_).set, .int .i64 ((⟨N, L, s⟩ : SvT).settC nn from_)]) ∧ Below w'.heap.size w' w'') := fun w' hb => refSettle_any ⟨N, L, s⟩ _ nn from_ w' S (VwsAt.keep HV.out (Kp.of_below hb _)) HK.out.len
  obtain ⟨z, hz⟩ : ∃ z, ((⟨N, L, s⟩ : SvT).sett nn from_).set = z := ⟨_, rfl⟩
  rw [hz] at HS ⊢
  clear he hz
  go_enter Try.func37, Try.ntmps37
  go_upto_region 1 with fail
  rw [HW.out]
  go_upto_region 8 with
    (first
    | (go_at_call 36; refine Calls.mono (HS.out _ HB.out.1) ?_; rintro e w1 ⟨rfl, hb1⟩
       have HB1 : Hid (Below W.heap.size W w1) := hb1
       clear hb1 t0 t1 t2 r0 r1 r2 c0 c1 fr
       obtain ⟨t0, t1, t2⟩ := cells_3 (kept_block HB1.out HX.out.1)
       have fg : ∀ o, w1.frozen? ⟨g, o, none⟩ = false := free_of (kept_block HB1.out HX.out.1))
    | fail)
  have hx1 := kept_block HB1.out HX.out.1
  have hx2 := kept_block HB1.out HX.out.2
  obtain ⟨w2, hw2⟩ : ∃ w2, put_3 w1 g (.int .i64 N) (.slice va n vc) (.bool z) = w2 := ⟨_, rfl⟩
  rw [show ((w1.setCell ⟨g, 0, none⟩ (.int .i64 N)).setCell ⟨g, 1, none⟩ (.slice va n vc)).setCell ⟨g, 2, none⟩ (.bool z) = w2 from hw2]
  have y1 : w2.heap[g]? = some (.cells #[.int .i64 N, .slice va n vc, .bool z] 72 (0, 0)) := by rw [← hw2]; exact fill_3 hx1
  have y2 : w2.heap[g + 1 + 1]? = some (.cells #[.int .i64 0, .slice none 0 0, .bool false] 72 (0, 0)) := by rw [← hw2, (chg_put3 _ _ _ _ _).block (g + 1 + 1) (lt_of_blk hx2) (by show ¬ g + 1 + 1 = g; omega)]; exact hx2
  have HB2 : Hid (Below w.heap.size w w2) := by show Below _ _ _; rw [← hw2]; exact fillB_3 (trans2 HB.out.1 HB1.out) (by rw [HB.out.2]; exact Nat.le_refl _)
  have HY : Hid (w2.heap[g + 1 + 1]? = some (.cells #[.int .i64 0, .slice none 0 0, .bool false] 72 (0, 0))) := y2
  clear t0 t1 t2 fg hx1 hx2 hw2
  obtain ⟨t0, t1, t2⟩ := cells_3 y1
  obtain ⟨r0, r1, r2⟩ := cells_3 y2
  have fr : ∀ o, w2.frozen? ⟨g + 1 + 1, o, none⟩ = false := free_of y2
  clear y1 y2
  go_wp2_with fail
  exact bodyPost_ret (results_cell_tmp rfl _ _ (g + 1 + 1) 72 _ (0, 0) _ _ rfl rfl (fill_3 HY.out) Try.underlying72 rfl (by kernel_rfl)) rfl ⟨rfl, by have h9 := fillB_3 (g := g + 1 + 1) (x0 := .int .i64 N) (x1 := .slice va n vc) (x2 := .bool z) HB2.out (by rw [HB.out.2]; omega); exact h9⟩
set_option maxHeartbeats 6400000 in
set_option maxRecDepth 100000 in
theorem refTake_ask (V : SvT) (v : Value) (from_ k nn : Int) (ns : List Value) (w : World) (S : Nat → Prop) (h : VwsAt w S v V.l) (hk : V.Ok) (hno : NoAt ns k nn) (he : V.l ≠ []) (k1 : k = 21) :
    Calls Try.prog 37 #[svV V.nodes v V.set, .int .i64 from_, .agg ns.toArray] w fun e w' => ∃ m, e = .returned (.tuple #[svV V.nodes v V.set, m]) ∧ NosAt w' (fun j => w.heap.size ≤ j) m [tellCs (lastV V.l)] ∧ Below w.heap.size w w' := by
  obtain ⟨va, vc, rfl, _⟩ := RowAt.form h
  obtain ⟨n, hn⟩ : ∃ n, V.l.length = n := ⟨_, rfl⟩
  obtain ⟨N, L, s⟩ := V
  simp only at h hn hk ⊢
  rw [hn] at h ⊢
  obtain ⟨W, hWW⟩ : ∃ W, ((w.alloc (.cells #[.int .i64 N, .slice va n vc, .bool s] 72)).alloc (.cells ns.toArray 47)).alloc (.cells #[.int .i64 0, .slice none 0 0, .bool false] 72) = W := ⟨_, rfl⟩
  have h3 := alloc3 (w := w) (a := #[.int .i64 N, .slice va n vc, .bool s]) (b := ns.toArray) (c := #[.int .i64 0, .slice none 0 0, .bool false]) (t := 72) (u := 47) (s := 72)
  rw [hWW] at h3
  obtain ⟨g, hg⟩ : ∃ g, w.heap.size = g := ⟨_, rfl⟩
  rw [hg] at h3
  obtain ⟨t0, t1, t2⟩ := cells_3 h3.1
  obtain ⟨r0, r1, r2⟩ := cells_3 h3.2.2.1
  have hr := range_of h3.2.1
  have c0 : W.cell? ⟨g + 1, 0, none⟩ = some (.int .i64 k) := hr 0 _ hno.k
  have c1 : W.cell? ⟨g + 1, 1, none⟩ = some (.int .i64 nn) := hr 1 _ hno.n
  have fr : ∀ o, W.frozen? ⟨g + 1 + 1, o, none⟩ = false := free_of h3.2.2.1
  have HX : Hid (W.heap[g]? = some (.cells #[.int .i64 N, .slice va n vc, .bool s] 72 (0, 0)) ∧ W.heap[g + 1 + 1]? = some (.cells #[.int .i64 0, .slice none 0 0, .bool false] 72 (0, 0))) := ⟨h3.1, h3.2.2.1⟩
  have HB : Hid (Below w.heap.size w W ∧ w.heap.size = g) := ⟨by rw [hg]; exact h3.2.2.2.1, hg⟩
  have HW : Hid (((w.alloc (.cells #[.int .i64 N, .slice va n vc, .bool s] 72)).alloc (.cells ns.toArray 47)).alloc (.cells #[.int .i64 0, .slice none 0 0, .bool false] 72) = W) := hWW
  have HV : Hid (VwsAt w S (.slice va n vc) L) := h
  have HN : Hid (L.length = n) := hn
  have HK : Hid ((⟨N, L, s⟩ : SvT).Ok) := hk
  clear h3 hr hWW h hno hn hk
  have hb0 : ((n : Int) == 0) = false := by have := HN.out; have h9 := List.length_pos_iff.2 (show L ≠ [] from he); simp; omega
  subst k1
  have HS : Hid (∀ w', Below w.heap.size w w' → Calls Try.prog 34 #[svV N (.slice va n vc) s] w' fun e w'' => e = .returned (vwV (lastV L)) ∧ Below w'.heap.size w' w'') := fun w' hb => by
    have := refNow_any N (.slice va n vc) s L w' S (VwsAt.keep HV.out (Kp.of_below hb _)) HK.out.len
    exact this
  obtain ⟨t, ht⟩ : ∃ t, lastV L = t := ⟨_, rfl⟩
  rw [ht] at HS ⊢
  obtain ⟨tn, tp, tb⟩ := t
  clear he ht
  go_enter Try.func37, Try.ntmps37
  go_upto_region 1 with fail
  rw [HW.out]
  go_upto_region 5 with
    (first
    | (go_at_call 34; refine Calls.mono (HS.out _ HB.out.1) ?_; rintro e w1 ⟨rfl, hb1⟩
       have HB1 : Hid (Below W.heap.size W w1) := hb1
       clear hb1 t0 t1 t2 r0 r1 r2 c0 c1 fr)
    | fail)
  obtain ⟨w2, hw2⟩ : ∃ w2, w1.alloc (.cells #[.int .i64 tn, .int .i64 tp, .int .i64 tb] 28) = w2 := ⟨_, rfl⟩
  obtain ⟨b, hb⟩ : ∃ b, w1.heap.size = b := ⟨_, rfl⟩
  rw [hw2]
  have hal : Below w1.heap.size w1 w2 := by rw [← hw2]; exact (Below.refl _ _).alloc (Nat.le_refl _) _
  have y1 : w2.heap[g]? = some (.cells #[.int .i64 N, .slice va n vc, .bool s] 72 (0, 0)) := kept_block hal (kept_block HB1.out HX.out.1)
  have y2 : w2.heap[g + 1 + 1]? = some (.cells #[.int .i64 0, .slice none 0 0, .bool false] 72 (0, 0)) := kept_block hal (kept_block HB1.out HX.out.2)
  have y3 : w2.heap[b]? = some (.cells #[.int .i64 tn, .int .i64 tp, .int .i64 tb] 28 (0, 0)) := by rw [← hw2, ← hb]; exact heap_alloc_new _ _
  have HBL : Hid (g + 1 + 1 < w2.heap.size ∧ g + 1 + 1 ≠ b) := ⟨lt_of_blk y2, by have := lt_of_blk (kept_block HB1.out HX.out.2); omega⟩
  have HB2 : Hid (Below w.heap.size w w2) := trans2 (trans2 HB.out.1 HB1.out) hal
  have HY : Hid (w2.heap[g + 1 + 1]? = some (.cells #[.int .i64 0, .slice none 0 0, .bool false] 72 (0, 0))) := y2
  try rw [hb]
  clear hal hw2
  obtain ⟨t0, t1, t2⟩ := cells_3 y1
  obtain ⟨r0, r1, r2⟩ := cells_3 y2
  obtain ⟨n0, n1, n2⟩ := cells_3 y3
  have fr : ∀ o, w2.frozen? ⟨g + 1 + 1, o, none⟩ = false := free_of y2
  have hq1 : ∀ (w : World) i v o, (w.setCell ⟨g + 1 + 1, i, none⟩ v).cell? ⟨g, o, none⟩ = w.cell? ⟨g, o, none⟩ := fun w i v o => cellN (by omega)
  have hq2 : ∀ (w : World) i v o, (w.setCell ⟨g + 1 + 1, i, none⟩ v).cell? ⟨b, o, none⟩ = w.cell? ⟨b, o, none⟩ := fun w i v o => cellN (by have := HBL.out.2; omega)
  have hl1 : g + 1 + 1 < w2.heap.size := lt_of_blk y2
  have hl2 : g < w2.heap.size := lt_of_blk y1
  have hl3 : b < w2.heap.size := lt_of_blk y3
  have hne : ¬ g + 1 + 1 = w2.heap.size := by omega
  have hne2 : ¬ g = w2.heap.size := by omega
  have hne3 : ¬ b = w2.heap.size := by omega
  clear y1 y2 y3
  go_region_held3 (fun w' => w'.cell? ⟨g, 0, none⟩ = some (.int .i64 N) ∧ w'.cell? ⟨g, 1, none⟩ = some (.slice va n vc) ∧ w'.cell? ⟨g, 2, none⟩ = some (.bool s) ∧ w'.cell? ⟨b, 0, none⟩ = some (.int .i64 tn) ∧ w'.cell? ⟨b, 1, none⟩ = some (.int .i64 tp) ∧ w'.cell? ⟨b, 2, none⟩ = some (.int .i64 tb)) (first | exact ⟨t0, t1, t2, n0, n1, n2⟩ | go_keep) (fail)
  all_goals go_wp2_with fail
  all_goals (
    refine bodyPost_ret (results_cell_tmp rfl _ _ (g + 1 + 1) 72 _ (0, 0) _ _ rfl rfl (by first | exact fill_3 (new_old HY.out _) | exact new_old (fill_3 HY.out) _) Try.underlying72 rfl (by kernel_rfl)) rfl ⟨_, rfl, ask_end (t := ⟨tn, tp, tb⟩) ?_ HB2.out.size, ?_⟩
    · first
      | exact heap_new' (by simp)
      | (rw [(chg_put3 _ _ _ _ _).block w2.heap.size (by simp) (fun e => hne e.symm)]; exact heap_new' (by simp))
    · first
      | exact (fillB_3 (below_drew HB2.out) (by rw [HB.out.2]; omega)).alloc (by have := HB2.out.size; simp; omega) _
      | exact fillB_3 ((below_drew HB2.out).alloc (by have := HB2.out.size; simp; omega) _) (by rw [HB.out.2]; omega))
end Go.Proofs.Ytlbhnlpdijhmlaa
