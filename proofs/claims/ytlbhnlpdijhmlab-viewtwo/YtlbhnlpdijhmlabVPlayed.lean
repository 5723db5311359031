/-
  view: played.
-/
import Derived.Test.YtlbhnlpdijhmlabVStands
import Derived.Test.YtlbhnlpdijhmlabVDid
namespace Go.Proofs.Ytlbhnlpdijhmlab
open Go.RowKit
set_option linter.unusedVariables false
set_option linter.unusedSimpArgs false

theorem refProm_any (V : SvT) (v : Value) (a b : Int) (w : World) (S : Nat → Prop) (h : VwsAt w S v V.l) (hk : V.Ok) :
    Calls Try.prog 18 #[svV V.nodes v V.set, .int .i64 a, .int .i64 b] w fun e w' => ∃ v', e = .returned (.tuple #[svV V.nodes v' (V.prom a b).set, .int .i64 (V.promC a b)]) ∧ VwsAt w' (fun j => S j ∨ w.heap.size ≤ j) v' (V.prom a b).l ∧ Below w.heap.size w w' := by
  obtain ⟨N, L, s⟩ := V
  by_cases hc : (⟨N, L, s⟩ : SvT).promC a b = 0
  · cases s with
    | false => exact absurd hc (by unfold SvT.promC; rw [if_pos rfl]; decide)
    | true =>
      refine (refProm_ok N L v a b w S h hk hc).mono ?_
      rintro e w' ⟨v', rfl, h1, h2⟩
      have e1 : ((⟨N, L, true⟩ : SvT).prom a b).set = false := by unfold SvT.prom; rw [if_pos hc]
      rw [e1, hc]
      exact ⟨v', rfl, VwsAt.mono h1 (fun j _ hj => .inr hj), h2⟩
  · have e1 : (⟨N, L, s⟩ : SvT).prom a b = ⟨N, L, s⟩ := by unfold SvT.prom; rw [if_neg hc]
    rw [e1]
    cases s with
    | false =>
      refine (refProm_un N L v a b w S h hk hc).mono ?_
      rintro e w' ⟨rfl, h2⟩
      exact ⟨v, rfl, VwsAt.mono (VwsAt.keep h (Kp.of_below h2 _)) (fun j _ hj => .inl hj), h2⟩
    | true =>
      refine (refProm_no N L v a b w S h hk hc).mono ?_
      rintro e w' ⟨rfl, h2⟩
      exact ⟨v, rfl, VwsAt.mono (VwsAt.keep h (Kp.of_below h2 _)) (fun j _ hj => .inl hj), h2⟩
theorem refTake_any (V : SvT) (v : Value) (f k n : Int) (ns : List Value) (w : World) (S : Nat → Prop) (h : VwsAt w S v V.l) (hk : V.Ok) (hno : NoAt ns k n) :
    Calls Try.prog 21 #[svV V.nodes v V.set, .int .i64 f, .agg ns.toArray] w fun e w' => ∃ m, e = .returned (.tuple #[svV V.nodes v (V.took f k n).set, m]) ∧ NosAt w' (fun j => w.heap.size ≤ j) m (V.tells k) ∧ Below w.heap.size w w' := by
  by_cases he : V.l = []
  · refine (refTake_nil V v f k n ns w S h hk hno he).mono ?_
    rintro e w' ⟨rfl, h2⟩
    have e1 : (V.took f k n).set = V.set := by
      unfold SvT.took
      split
      · unfold SvT.sett
        rw [if_neg (by unfold SvT.settC; rw [if_pos (.inl he)]; decide)]
      · rfl
    have e2 : V.tells k = [] := by unfold SvT.tells; rw [if_neg (fun h => h.1 he)]
    rw [e1, e2]
    exact ⟨_, rfl, RowAt.nil _ _ _ _, h2⟩
  · by_cases k1 : k = 21
    · refine (refTake_ask V v f k n ns w S h hk hno he k1).mono ?_
      rintro e w' ⟨m, rfl, h1, h2⟩
      have e1 : (V.took f k n).set = V.set := by unfold SvT.took; rw [if_neg (by rw [k1]; decide)]
      have e2 : V.tells k = [tellCs (lastV V.l)] := by unfold SvT.tells; rw [if_pos ⟨he, k1⟩]
      rw [e1, e2]
      exact ⟨m, rfl, h1, h2⟩
    · have e2 : V.tells k = [] := by unfold SvT.tells; rw [if_neg (fun h => k1 h.2)]
      rw [e2]
      by_cases k3 : k = 23
      · refine (refTake_set V v f k n ns w S h hk hno he k3).mono ?_
        rintro e w' ⟨rfl, h2⟩
        have e1 : V.took f k n = V.sett n f := by unfold SvT.took; rw [if_pos k3]
        rw [e1]
        exact ⟨_, rfl, RowAt.nil _ _ _ _, h2⟩
      · refine (refTake_else V v f k n ns w S h hk hno he k1 k3).mono ?_
        rintro e w' ⟨rfl, h2⟩
        have e1 : V.took f k n = V := by unfold SvT.took; rw [if_neg k3]
        rw [e1]
        exact ⟨_, rfl, RowAt.nil _ _ _ _, h2⟩
/-- A service, and the boxes of 'played' beside it: the document's service (at g), the act (behind it), the result. -/
structure Pl (At : World → (Nat → Prop) → SvT → Value → Prop) (w0 : World) (K0 : Nat → Prop) (w : World) (K : Nat → Prop) (V : SvT) (p : Value) (g : Nat) (xs : Array Value) (cs : List Value) : Prop where
  bs : Bs At w0 K0 w K V p
  bx : w.heap[g]? = some (.cells xs 30 (0, 0))
  ax : w.rangeAt (g + 1) 0 cs
  th : w.there (g + 1) 0 24
  rx : w.heap[g + 1 + 1]? = some (.cells #[.int .i64 0, .slice none 0 0, .bool false] 30 (0, 0))
  nk : ∀ j, g ≤ j → j ≤ g + 1 + 1 → ¬ K j
  own : w0.heap.size ≤ g
theorem Pl.lt {At : World → (Nat → Prop) → SvT → Value → Prop} {w0 w : World} {K0 K : Nat → Prop} {V : SvT} {p : Value} {g : Nat} {xs : Array Value} {cs : List Value} (h : Pl At w0 K0 w K V p g xs cs) : g + 1 + 1 < w.heap.size := lt_of_blk h.rx
theorem Pl.turn {At : World → (Nat → Prop) → SvT → Value → Prop} {w0 w w' : World} {K0 K K' : Nat → Prop} {V V' : SvT} {p : Value} {g : Nat} {xs : Array Value} {cs : List Value} (h : Pl At w0 K0 w K V p g xs cs) (h1 : At w' K' V' p) (h2 : Chg w w' K) (h3 : ∀ j, K' j → K j ∨ w.heap.size ≤ j) : Pl At w0 K0 w' K' V' p g xs cs := by
  have hl := h.lt
  obtain ⟨K2, hb⟩ := h.bs.call ⟨K', h1, h2, h3⟩
  refine ⟨⟨h1, hb.chg, fun j hj => (h3 j hj).elim (h.bs.new j) (fun hh => .inr (Nat.le_trans h.bs.chg.size hh))⟩, ?_, range_keep h.ax h2 (by omega) (h.nk _ (by omega) (by omega)), there_keep h.th h2 (by omega) (h.nk _ (by omega) (by omega)), ?_, fun j hj hj2 hk => (h3 j hk).elim (h.nk j hj hj2) (fun hh => by omega), h.own⟩
  · rw [h2.block g (by omega) (h.nk _ (by omega) (by omega))]; exact h.bx
  · rw [h2.block (g + 1 + 1) (by omega) (h.nk _ (by omega) (by omega))]; exact h.rx
theorem Pl.call {At : World → (Nat → Prop) → SvT → Value → Prop} {w0 w w' : World} {K0 K : Nat → Prop} {V V' : SvT} {p : Value} {g : Nat} {xs : Array Value} {cs : List Value} (h : Pl At w0 K0 w K V p g xs cs) (he : SvE At w K V' p w') : ∃ K', Pl At w0 K0 w' K' V' p g xs cs := by
  obtain ⟨K', h1, h2, h3⟩ := he
  exact ⟨K', h.turn h1 h2 h3⟩
theorem Pl.on {At : World → (Nat → Prop) → SvT → Value → Prop} (sv : Serves At) {w0 w w' : World} {K0 K : Nat → Prop} {V : SvT} {p : Value} {g : Nat} {xs : Array Value} {cs : List Value} (h : Pl At w0 K0 w K V p g xs cs) (hb : Below w.heap.size w w') : Pl At w0 K0 w' K V p g xs cs := by
  have hl := h.lt
  exact ⟨h.bs.on sv hb, kept_block hb h.bx, range_keep h.ax (Chg.of_below hb (fun _ => False)) (by omega) id, there_keep h.th (Chg.of_below hb (fun _ => False)) (by omega) id, kept_block hb h.rx, h.nk, h.own⟩
theorem Pl.store {At : World → (Nat → Prop) → SvT → Value → Prop} (sv : Serves At) {w0 w : World} {K0 K : Nat → Prop} {V : SvT} {p : Value} {g : Nat} {xs : Array Value} {cs ds : List Value} (h : Pl At w0 K0 w K V p g xs cs) (hd : ds.length = 24) : Pl At w0 K0 (w.setCells (g + 1) 0 ds) K V p g xs ds := by
  have hc := chg_setCells (g + 1) ds 0 w
  have hl := h.lt
  have hc0 : Chg w0 (w.setCells (g + 1) 0 ds) K0 := h.bs.chg.trans' hc (fun j e => .inr (by have e : j = g + 1 := e; have := h.own; omega))
  refine ⟨⟨sv.keep h.bs.at' (Kp.of_chg hc (fun j _ hj e => h.nk (g + 1) (by omega) (by omega) (by have e : j = g + 1 := e; rw [← e]; exact hj))), hc0, h.bs.new⟩, ?_, World.rangeAt_setCells_same w (g + 1) 0 ds (by rw [hd]; exact h.th), World.there_setCells h.th (g + 1) 0 ds, ?_, h.nk, h.own⟩
  · rw [hc.block g (by omega) (by show g ≠ g + 1; omega)]; exact h.bx
  · rw [hc.block (g + 1 + 1) (by omega) (by show g + 1 + 1 ≠ g + 1; omega)]; exact h.rx
/-- What played leaves: the service, and the document's. -/
def PlE (At : World → (Nat → Prop) → SvT → Value → Prop) (w0 : World) (K0 S : Nat → Prop) (V : SvT) (p v : Value) (w : World) : Prop :=
  ∃ K, At w K V p ∧ Chg w0 w K0 ∧ (∀ j, K j → K0 j ∨ w0.heap.size ≤ j) ∧ VwsAt w (fun j => (S j ∨ w0.heap.size ≤ j) ∧ ¬ K j) v V.l
/-- The end: the result's box is filled. -/
theorem Pl.fin {At : World → (Nat → Prop) → SvT → Value → Prop} (sv : Serves At) {w0 w : World} {K0 K S : Nat → Prop} {V : SvT} {p v : Value} {g : Nat} {xs : Array Value} {cs : List Value} {x0 x1 x2 : Value} (h : Pl At w0 K0 w K V p g xs cs) (hv : VwsAt w (fun j => (S j ∨ w0.heap.size ≤ j) ∧ ¬ K j ∧ j ≠ g + 1 + 1) v V.l) : PlE At w0 K0 S V p v (put_3 w (g + 1 + 1) x0 x1 x2) ∧ (put_3 w (g + 1 + 1) x0 x1 x2).heap[g + 1 + 1]? = some (.cells #[x0, x1, x2] 30 (0, 0)) := by
  have hc := chg_put3 w (g + 1 + 1) x0 x1 x2
  have hl := h.lt
  refine ⟨⟨K, sv.keep h.bs.at' (Kp.of_chg hc (fun j _ hj e => h.nk (g + 1 + 1) (by omega) (by omega) (by have e : j = g + 1 + 1 := e; rw [← e]; exact hj))), h.bs.chg.trans' hc (fun j e => .inr (by have e : j = g + 1 + 1 := e; have := h.own; omega)), h.bs.new, ?_⟩, fill_3 h.rx⟩
  exact VwsAt.mono (VwsAt.keep hv (Kp.of_chg hc (fun j _ hS => hS.2.2))) (fun j _ hS => ⟨hS.1, hS.2.1⟩)
theorem vws_old {At : World → (Nat → Prop) → SvT → Value → Prop} {w0 w : World} {K0 K S : Nat → Prop} {V V0 : SvT} {p v : Value} (h : Bs At w0 K0 w K V p) (hv : VwsAt w0 S v V0.l) (hs : ∀ j, j < w0.heap.size → S j → ¬ K0 j) : VwsAt w (fun j => (S j ∧ j < w0.heap.size) ∧ ¬ K j) v V0.l :=
  VwsAt.mono (VwsAt.keep (S := fun j => S j ∧ j < w0.heap.size) (VwsAt.mono hv (fun j hj hS => ⟨hS, hj⟩)) (Kp.of_chg h.chg (fun j hj hS => hs j hj hS.1))) (fun j _ hS => ⟨hS, fun hk => (h.new j hk).elim (hs j hS.2 hS.1) (fun hh => by have := hS.2; omega)⟩)
theorem notes_any {w : World} {S S' : Nat → Prop} {V : SvT} {k : Int} {m m' : Value} (h : NosAt w S m (V.tells k)) (h' : NosAt w S' m' (V.tells k)) : Calls Try.prog 22 #[m, m'] w fun e w' => e = .returned (.bool true) ∧ Below w.heap.size w w' := by
  by_cases hc : V.l ≠ [] ∧ k = 21
  · have e : V.tells k = [tellCs (lastV V.l)] := if_pos hc
    rw [e] at h h'
    exact notes_tell m m' _ w S S' h h'
  · have e : V.tells k = [] := if_neg hc
    rw [e] at h h'
    exact notes_none m m' w S S' h h'
set_option maxHeartbeats 25600000 in
set_option maxRecDepth 100000 in
theorem played_any {At : World → (Nat → Prop) → SvT → Value → Prop} (sv : Serves At) (w : World) (K0 S : Nat → Prop) (V : SvT) (p v : Value) (x : WhT) (cs : List Value) (h : At w K0 V p) (hv : VwsAt w S v V.l) (hs : ∀ j, j < w.heap.size → S j → ¬ K0 j) (ha : x.At cs) :
    Calls Try.prog 9 #[p, svV V.nodes v V.set, .agg cs.toArray] w fun e w' => ∃ v', e = .returned (.tuple #[svV V.nodes v' (V.does (wholeT (lastV V.l) x)).set, .bool true]) ∧ PlE At w K0 S (V.does (wholeT (lastV V.l) x)) p v' w' := by
  obtain ⟨va, vc, rfl, -⟩ := RowAt.form hv
  have hok := sv.ok h
  have hlt := sv.lt h
  obtain ⟨W, hW⟩ : ∃ W, ((w.alloc (.cells #[.int .i64 V.nodes, (.slice va V.l.length vc), .bool V.set] 30)).alloc (.cells cs.toArray 49)).alloc (.cells #[.int .i64 0, .slice none 0 0, .bool false] 30) = W := ⟨_, rfl⟩
  obtain ⟨g, hg⟩ : ∃ g, w.heap.size = g := ⟨_, rfl⟩
  have h3 := alloc3 (w := w) (a := #[.int .i64 V.nodes, (.slice va V.l.length vc), .bool V.set]) (b := cs.toArray) (c := #[.int .i64 0, .slice none 0 0, .bool false]) (t := 30) (u := 49) (s := 30)
  rw [hW] at h3
  have HX0 : Hid (Pl At w K0 W K0 V p g #[.int .i64 V.nodes, (.slice va V.l.length vc), .bool V.set] cs) := by
    have hB := h3.2.2.2.1
    rw [hg] at h3
    exact ⟨⟨sv.keep h (Kp.of_below hB _), Chg.of_below hB _, fun j hj => .inl hj⟩, h3.1, range_of h3.2.1, there_of h3.2.1 (by simp [ha.len]), h3.2.2.1, fun j hj _ hk => by have := hlt j hk; omega, by omega⟩
  have HX1 : Hid (Pl At w K0 W.drew K0 V p g #[.int .i64 V.nodes, (.slice va V.l.length vc), .bool V.set] cs) := HX0.out.on sv (below_drew (Below.refl _ _))
  have HV : Hid (VwsAt w S (.slice va V.l.length vc) V.l ∧ ∀ j, j < w.heap.size → S j → ¬ K0 j) := ⟨hv, hs⟩
  have HOK : Hid V.Ok := hok
  have HA : Hid (x.At cs) := ha
  have HD : Hid ((wholeT (lastV V.l) x).At (wholeL (lastV V.l) cs x.kind x.a x.b)) := wholeL_at ha
  have HL : Hid (cs.length = 24 ∧ ∀ u ∈ cs, u.oneCell' = true) := ⟨ha.len, ha.one⟩
  have HEN : Hid (∀ args w, (callFunc 15 args).run Try.prog w = .ok (.enter 15 args) w) := enters_of Try.func15 (by kernel_rfl) rfl
  have HEW : Hid (∀ args w, (callFunc 17 args).run Try.prog w = .ok (.enter 17 args) w) := enters_of Try.func17 (by kernel_rfl) rfl
  have HW : Hid _ := hW
  have HNW : Hid (∀ {w' : World} {K : Nat → Prop}, Pl At w K0 w' K V p g #[.int .i64 V.nodes, (.slice va V.l.length vc), .bool V.set] cs → Calls Try.prog 15 #[svV V.nodes (.slice va V.l.length vc) V.set] w' fun e w'' => e = .returned (vwV (lastV V.l)) ∧ Below w'.heap.size w' w'') := fun {w' K} hp => refNow_any V.nodes (.slice va V.l.length vc) V.set V.l w' _ (vws_old hp.bs hv hs) hok.len
  have hR3 : (Try.prog.info? 30).map (·.size) = some ([.int .i64 V.nodes, (.slice va V.l.length vc), .bool V.set] : List Value).length := by kernel_rfl
  have HR3 : Hid _ := hR3
  clear hW h hv hs ha hok hlt h3 hR3
  obtain ⟨y, hy⟩ : ∃ y, wholeT (lastV V.l) x = y := ⟨_, rfl⟩
  rw [hy] at HD ⊢
  clear hy
  obtain ⟨kind, a, b, ns, k, n⟩ := y
  try dsimp only at HD ⊢
  go_enter Try.func9, Try.ntmps9
  go_upto_region 1 with fail
  rw [HW.out]
  clear hg
  refine wp_cut [17, 18, 19, 20] (fun vs w' => vs = [svV V.nodes (.slice va V.l.length vc) V.set, vwV (lastV V.l), .agg cs.toArray, .agg (wholeL (lastV V.l) cs x.kind x.a x.b).toArray] ∧ Hid (Pl At w K0 w' K0 V p g #[.int .i64 V.nodes, (.slice va V.l.length vc), .bool V.set] (wholeL (lastV V.l) cs x.kind x.a x.b))) ?_ ?_
  · refine wp_region_any (by kernel_rfl) ?_
    change wpAny _ _ _ _ _ _ _ (World.drew _)
    refine wpAny_ready (rs := [0, 2]) (by kernel_rfl) (by simp) ?_
    refine AllReady.cons rfl (fun K hK => ?_) (AllReady.cons rfl (fun K hK => ?_) AllReady.nil)
    · refine step_load (by rfl) 30 _ (by rfl) g 0 (by rfl) [.int .i64 V.nodes, (.slice va V.l.length vc), .bool V.set] _ (range_of HX1.out.bx) Try.underlying30 rfl HR3.out (hK _ _ ?_)
      clear hK K
      refine wpAny_ready (rs := [1, 2]) (by kernel_rfl) (by simp) ?_
      refine AllReady.cons rfl (fun K hK => ?_) (AllReady.cons rfl (fun K hK => ?_) AllReady.nil)
      · refine step_call1 (by rfl) 15 _ _ (by rfl) HEN.out (svV V.nodes (.slice va V.l.length vc) V.set) (by rfl) (HNW.out HX1.out) ?_
        rintro e w1 ⟨rfl, hb1⟩
        have HX2 : Hid (Pl At w K0 w1 K0 V p g #[.int .i64 V.nodes, (.slice va V.l.length vc), .bool V.set] cs) := HX1.out.on sv hb1
        refine ⟨_, rfl, hK _ _ ?_⟩
        clear hK K hb1
        refine wpAny_ready (rs := [2]) (by kernel_rfl) (by simp) ?_
        refine AllReady.cons rfl (fun K hK => ?_) AllReady.nil
        refine step_load (by rfl) 49 _ (by rfl) (g + 1) 0 (by rfl) cs _ HX2.out.ax Try.underlying49 rfl (by rw [HL.out.1]; exact Try.infoAct) (hK _ _ ?_)
        clear hK K
        refine wpAny_ready (rs := [3]) (by kernel_rfl) (by simp) ?_
        refine AllReady.cons rfl (fun K hK => ?_) AllReady.nil
        refine step_call2 (by rfl) 17 _ _ _ (by rfl) HEW.out (vwV (lastV V.l)) (.agg cs.toArray) (by rfl) (by rfl) (whole_any (lastV V.l) cs x.kind x.a x.b x.k x.n x.ns HA.out w1) ?_
        rintro e w2 ⟨rfl, hb2⟩
        have hx2 := HX2.out.on sv hb2
        refine ⟨_, rfl, hK _ _ ?_⟩
        clear hK K
        refine wpAny_ready (rs := [4]) (by kernel_rfl) (by simp) ?_
        refine AllReady.cons rfl (fun K hK => ?_) AllReady.nil
        refine step_store (by rfl) 49 _ _ (by rfl) (g + 1) 0 (wholeL (lastV V.l) cs x.kind x.a x.b) (by rfl) (by rfl) (by rw [HD.out.len]; exact hx2.th) (by rw [HD.out.len]; exact Try.infoAct) HD.out.one (hK _ _ ?_)
        clear hK K
        refine wpAny_done (by kernel_rfl) ?_ _
        have HX3 : Hid (Pl At w K0 _ K0 V p g #[.int .i64 V.nodes, (.slice va V.l.length vc), .bool V.set] (wholeL (lastV V.l) cs x.kind x.a x.b)) := hx2.store sv HD.out.len
        clear hx2 hb2
        exact ⟨[svV V.nodes (.slice va V.l.length vc) V.set, vwV (lastV V.l), .agg cs.toArray, .agg (wholeL (lastV V.l) cs x.kind x.a x.b).toArray], ⟨rfl, HX3⟩, by simp [putsL, Act.put]⟩
      · refine step_load (by rfl) 49 _ (by rfl) (g + 1) 0 (by rfl) cs _ HX1.out.ax Try.underlying49 rfl (by rw [HL.out.1]; exact Try.infoAct) (hK _ _ ?_)
        clear hK K
        refine wpAny_ready (rs := [1]) (by kernel_rfl) (by simp) ?_
        refine AllReady.cons rfl (fun K hK => ?_) AllReady.nil
        refine step_call1 (by rfl) 15 _ _ (by rfl) HEN.out (svV V.nodes (.slice va V.l.length vc) V.set) (by rfl) (HNW.out HX1.out) ?_
        rintro e w1 ⟨rfl, hb1⟩
        have HX2 : Hid (Pl At w K0 w1 K0 V p g #[.int .i64 V.nodes, (.slice va V.l.length vc), .bool V.set] cs) := HX1.out.on sv hb1
        refine ⟨_, rfl, hK _ _ ?_⟩
        clear hK K hb1
        refine wpAny_ready (rs := [3]) (by kernel_rfl) (by simp) ?_
        refine AllReady.cons rfl (fun K hK => ?_) AllReady.nil
        refine step_call2 (by rfl) 17 _ _ _ (by rfl) HEW.out (vwV (lastV V.l)) (.agg cs.toArray) (by rfl) (by rfl) (whole_any (lastV V.l) cs x.kind x.a x.b x.k x.n x.ns HA.out w1) ?_
        rintro e w2 ⟨rfl, hb2⟩
        have hx2 := HX2.out.on sv hb2
        refine ⟨_, rfl, hK _ _ ?_⟩
        clear hK K
        refine wpAny_ready (rs := [4]) (by kernel_rfl) (by simp) ?_
        refine AllReady.cons rfl (fun K hK => ?_) AllReady.nil
        refine step_store (by rfl) 49 _ _ (by rfl) (g + 1) 0 (wholeL (lastV V.l) cs x.kind x.a x.b) (by rfl) (by rfl) (by rw [HD.out.len]; exact hx2.th) (by rw [HD.out.len]; exact Try.infoAct) HD.out.one (hK _ _ ?_)
        clear hK K
        refine wpAny_done (by kernel_rfl) ?_ _
        have HX3 : Hid (Pl At w K0 _ K0 V p g #[.int .i64 V.nodes, (.slice va V.l.length vc), .bool V.set] (wholeL (lastV V.l) cs x.kind x.a x.b)) := hx2.store sv HD.out.len
        clear hx2 hb2
        exact ⟨[svV V.nodes (.slice va V.l.length vc) V.set, vwV (lastV V.l), .agg cs.toArray, .agg (wholeL (lastV V.l) cs x.kind x.a x.b).toArray], ⟨rfl, HX3⟩, by simp [putsL, Act.put]⟩
    · refine step_load (by rfl) 49 _ (by rfl) (g + 1) 0 (by rfl) cs _ HX1.out.ax Try.underlying49 rfl (by rw [HL.out.1]; exact Try.infoAct) (hK _ _ ?_)
      clear hK K
      refine wpAny_ready (rs := [0]) (by kernel_rfl) (by simp) ?_
      refine AllReady.cons rfl (fun K hK => ?_) AllReady.nil
      refine step_load (by rfl) 30 _ (by rfl) g 0 (by rfl) [.int .i64 V.nodes, (.slice va V.l.length vc), .bool V.set] _ (range_of HX1.out.bx) Try.underlying30 rfl HR3.out (hK _ _ ?_)
      clear hK K
      refine wpAny_ready (rs := [1]) (by kernel_rfl) (by simp) ?_
      refine AllReady.cons rfl (fun K hK => ?_) AllReady.nil
      refine step_call1 (by rfl) 15 _ _ (by rfl) HEN.out (svV V.nodes (.slice va V.l.length vc) V.set) (by rfl) (HNW.out HX1.out) ?_
      rintro e w1 ⟨rfl, hb1⟩
      have HX2 : Hid (Pl At w K0 w1 K0 V p g #[.int .i64 V.nodes, (.slice va V.l.length vc), .bool V.set] cs) := HX1.out.on sv hb1
      refine ⟨_, rfl, hK _ _ ?_⟩
      clear hK K hb1
      refine wpAny_ready (rs := [3]) (by kernel_rfl) (by simp) ?_
      refine AllReady.cons rfl (fun K hK => ?_) AllReady.nil
      refine step_call2 (by rfl) 17 _ _ _ (by rfl) HEW.out (vwV (lastV V.l)) (.agg cs.toArray) (by rfl) (by rfl) (whole_any (lastV V.l) cs x.kind x.a x.b x.k x.n x.ns HA.out w1) ?_
      rintro e w2 ⟨rfl, hb2⟩
      have hx2 := HX2.out.on sv hb2
      refine ⟨_, rfl, hK _ _ ?_⟩
      clear hK K
      refine wpAny_ready (rs := [4]) (by kernel_rfl) (by simp) ?_
      refine AllReady.cons rfl (fun K hK => ?_) AllReady.nil
      refine step_store (by rfl) 49 _ _ (by rfl) (g + 1) 0 (wholeL (lastV V.l) cs x.kind x.a x.b) (by rfl) (by rfl) (by rw [HD.out.len]; exact hx2.th) (by rw [HD.out.len]; exact Try.infoAct) HD.out.one (hK _ _ ?_)
      clear hK K
      refine wpAny_done (by kernel_rfl) ?_ _
      have HX3 : Hid (Pl At w K0 _ K0 V p g #[.int .i64 V.nodes, (.slice va V.l.length vc), .bool V.set] (wholeL (lastV V.l) cs x.kind x.a x.b)) := hx2.store sv HD.out.len
      clear hx2 hb2
      exact ⟨[svV V.nodes (.slice va V.l.length vc) V.set, vwV (lastV V.l), .agg cs.toArray, .agg (wholeL (lastV V.l) cs x.kind x.a x.b).toArray], ⟨rfl, HX3⟩, by simp [putsL, Act.put]⟩
  rintro vs w3 ⟨rfl, HX3⟩
  simp only [putsL, Act.put, List.setIfInBounds_toArray, List.set_cons_zero, List.set_cons_succ]
  obtain ⟨ds, hds⟩ : ∃ ds, wholeL (lastV V.l) cs x.kind x.a x.b = ds := ⟨_, rfl⟩
  rw [hds] at HX3 HD ⊢
  clear hds HX0 HX1 HA HL HNW HEN HEW HR3 HW
  have HAC : Hid (∀ {w' : World}, w'.rangeAt (g + 1) 0 ds → w'.cell? ⟨g + 1, 0, none⟩ = some (.int .i64 kind) ∧ w'.cell? ⟨g + 1, 1, none⟩ = some (.int .i64 a) ∧ w'.cell? ⟨g + 1, 2, none⟩ = some (.int .i64 b)) := fun {w'} hr => ⟨hr 0 _ (by rw [HD.out.eq]; rfl), hr 1 _ (by rw [HD.out.eq]; rfl), hr 2 _ (by rw [HD.out.eq]; rfl)⟩
  have HN3 : Hid (∀ {w' : World}, w'.rangeAt (g + 1) 0 ds → w'.rangeAt (g + 1) 3 ns) := fun {w'} hr j u hu => by
    have := hr (j + 3) u (by rw [HD.out.eq]; simpa using hu)
    rw [show 3 + j = 0 + (j + 3) by omega]
    exact this
  have HNO : Hid (NoAt ns k n) := HD.out.note
  obtain ⟨hc0, hc1, hc2⟩ := HAC.out HX3.out.ax
  by_cases k1 : kind = 1
  · subst k1
    have HDO : Hid (V.does ⟨1, a, b, ns, k, n⟩ = V.prom a b) := rfl
    go_wp2_with fail
    refine Calls.mono (sv.promote w3 K0 V p a b HX3.out.bs.at') ?_
    rintro e w4 ⟨rfl, he4⟩
    obtain ⟨K4, h4⟩ := HX3.out.call he4
    have HX4 : Hid (Pl At w K0 w4 K4 (V.prom a b) p g #[.int .i64 V.nodes, (.slice va V.l.length vc), .bool V.set] ds) := h4
    obtain ⟨q0, q1, q2⟩ := cells_3 h4.bx
    obtain ⟨e0, e1, e2⟩ := HAC.out h4.ax
    clear he4 h4
    clear hc0 hc1 hc2
    go_wp2_with fail
    refine Calls.mono (refProm_any V (.slice va V.l.length vc) a b w4 _ (vws_old HX4.out.bs HV.out.1 HV.out.2) HOK.out) ?_
    rintro e w5 ⟨v', rfl, hv5, hb5⟩
    obtain ⟨ya, yc, rfl, -⟩ := RowAt.form hv5
    have HX5 : Hid (Pl At w K0 w5 K4 (V.prom a b) p g #[.int .i64 V.nodes, (.slice va V.l.length vc), .bool V.set] ds) := HX4.out.on sv hb5
    have HV5 : Hid (VwsAt w5 (fun j => ((S j ∧ j < w.heap.size) ∧ ¬ K4 j) ∨ w4.heap.size ≤ j) (.slice ya (V.prom a b).l.length yc) (V.prom a b).l ∧ w4.heap.size ≤ w5.heap.size) := ⟨hv5, hb5.size⟩
    clear hv5
    clear hb5 q0 q1 q2 e0 e1 e2
    go_upto_region 6 with fail
    obtain ⟨w6, hw6⟩ : ∃ w6, w5.alloc (.cells #[.int .i64 V.nodes, (.slice ya (V.prom a b).l.length yc), .bool (V.prom a b).set] 30) = w6 := ⟨_, rfl⟩
    obtain ⟨d, hd⟩ : ∃ d, w5.heap.size = d := ⟨_, rfl⟩
    have hB6 : Below w5.heap.size w5 w6 := by rw [← hw6]; exact (Below.refl _ _).alloc (Nat.le_refl _) _
    have HX6 : Hid (Pl At w K0 w6 K4 (V.prom a b) p g #[.int .i64 V.nodes, (.slice va V.l.length vc), .bool V.set] ds) := HX5.out.on sv hB6
    have HV6 : Hid (VwsAt w6 (fun j => (S j ∨ w.heap.size ≤ j) ∧ ¬ K4 j ∧ j ≠ g + 1 + 1) (.slice ya (V.prom a b).l.length yc) (V.prom a b).l) := by
      refine VwsAt.mono (VwsAt.keep HV5.out.1 (Kp.of_below hB6 _)) (fun j _ hS => ?_)
      have ho := HX4.out.own
      have hl4 := HX4.out.lt
      rcases hS with ⟨hS, hk⟩ | hS
      · exact ⟨.inl hS.1, hk, by have := hS.2; omega⟩
      · exact ⟨.inr (by omega), fun hk => by have := sv.lt HX4.out.bs.at' j hk; omega, by omega⟩
    have hx6 : w6.heap[d]? = some (.cells #[.int .i64 V.nodes, (.slice ya (V.prom a b).l.length yc), .bool (V.prom a b).set] 30 (0, 0)) := by rw [← hw6, ← hd]; exact heap_alloc_new _ _
    rw [hw6, hd]
    obtain ⟨d0, d1, d2⟩ := cells_3 hx6
    obtain ⟨r0, r1, r2⟩ := cells_3 HX6.out.rx
    have fr : ∀ o, w6.frozen? ⟨g + 1 + 1, o, none⟩ = false := free_of HX6.out.rx
    clear hx6 hw6 hd HX4 HX5 HV5 hB6
    go_wp2_with fail
    have hf := Pl.fin sv (x0 := .int .i64 V.nodes) (x1 := (.slice ya (V.prom a b).l.length yc)) (x2 := .bool (V.prom a b).set) HX6.out HV6.out
    refine bodyPost_ret (results_cell_tmp rfl _ _ (g + 1 + 1) 30 _ (0, 0) _ _ rfl rfl hf.2 Try.underlying30 rfl (by kernel_rfl)) rfl ?_
    rw [HDO.out]
    exact ⟨(.slice ya (V.prom a b).l.length yc), by simp, hf.1⟩
  by_cases k2 : kind = 2
  · subst k2
    have HDO : Hid (V.does ⟨2, a, b, ns, k, n⟩ = V.sett a b) := rfl
    clear k1
    go_wp2_with fail
    refine Calls.mono (sv.settle w3 K0 V p a b HX3.out.bs.at') ?_
    rintro e w4 ⟨rfl, he4⟩
    obtain ⟨K4, h4⟩ := HX3.out.call he4
    have HX4 : Hid (Pl At w K0 w4 K4 (V.sett a b) p g #[.int .i64 V.nodes, (.slice va V.l.length vc), .bool V.set] ds) := h4
    obtain ⟨q0, q1, q2⟩ := cells_3 h4.bx
    obtain ⟨e0, e1, e2⟩ := HAC.out h4.ax
    clear he4 h4
    clear hc0 hc1 hc2
    go_wp2_with fail
    refine Calls.mono (refSettle_any V (.slice va V.l.length vc) a b w4 _ (vws_old HX4.out.bs HV.out.1 HV.out.2) HOK.out.len) ?_
    rintro e w5 ⟨rfl, hb5⟩
    have HX5 : Hid (Pl At w K0 w5 K4 (V.sett a b) p g #[.int .i64 V.nodes, (.slice va V.l.length vc), .bool V.set] ds) := HX4.out.on sv hb5
    have HV5 : Hid (VwsAt w5 (fun j => ((S j ∧ j < w.heap.size) ∧ ¬ K4 j) ∨ w4.heap.size ≤ j) (.slice va V.l.length vc) (V.sett a b).l ∧ w4.heap.size ≤ w5.heap.size) := ⟨by rw [show (V.sett a b).l = V.l by unfold SvT.sett; split <;> rfl]; exact VwsAt.mono (VwsAt.keep (vws_old HX4.out.bs HV.out.1 HV.out.2) (Kp.of_below hb5 _)) (fun j _ h => .inl h), hb5.size⟩
    clear hb5 q0 q1 q2 e0 e1 e2
    go_upto_region 10 with fail
    obtain ⟨w6, hw6⟩ : ∃ w6, w5.alloc (.cells #[.int .i64 V.nodes, (.slice va V.l.length vc), .bool (V.sett a b).set] 30) = w6 := ⟨_, rfl⟩
    obtain ⟨d, hd⟩ : ∃ d, w5.heap.size = d := ⟨_, rfl⟩
    have hB6 : Below w5.heap.size w5 w6 := by rw [← hw6]; exact (Below.refl _ _).alloc (Nat.le_refl _) _
    have HX6 : Hid (Pl At w K0 w6 K4 (V.sett a b) p g #[.int .i64 V.nodes, (.slice va V.l.length vc), .bool V.set] ds) := HX5.out.on sv hB6
    have HV6 : Hid (VwsAt w6 (fun j => (S j ∨ w.heap.size ≤ j) ∧ ¬ K4 j ∧ j ≠ g + 1 + 1) (.slice va V.l.length vc) (V.sett a b).l) := by
      refine VwsAt.mono (VwsAt.keep HV5.out.1 (Kp.of_below hB6 _)) (fun j _ hS => ?_)
      have ho := HX4.out.own
      have hl4 := HX4.out.lt
      rcases hS with ⟨hS, hk⟩ | hS
      · exact ⟨.inl hS.1, hk, by have := hS.2; omega⟩
      · exact ⟨.inr (by omega), fun hk => by have := sv.lt HX4.out.bs.at' j hk; omega, by omega⟩
    have hx6 : w6.heap[d]? = some (.cells #[.int .i64 V.nodes, (.slice va V.l.length vc), .bool (V.sett a b).set] 30 (0, 0)) := by rw [← hw6, ← hd]; exact heap_alloc_new _ _
    rw [hw6, hd]
    obtain ⟨d0, d1, d2⟩ := cells_3 hx6
    obtain ⟨r0, r1, r2⟩ := cells_3 HX6.out.rx
    have fr : ∀ o, w6.frozen? ⟨g + 1 + 1, o, none⟩ = false := free_of HX6.out.rx
    clear hx6 hw6 hd HX4 HX5 HV5 hB6
    go_wp2_with fail
    have hf := Pl.fin sv (x0 := .int .i64 V.nodes) (x1 := (.slice va V.l.length vc)) (x2 := .bool (V.sett a b).set) HX6.out HV6.out
    refine bodyPost_ret (results_cell_tmp rfl _ _ (g + 1 + 1) 30 _ (0, 0) _ _ rfl rfl hf.2 Try.underlying30 rfl (by kernel_rfl)) rfl ?_
    rw [HDO.out]
    exact ⟨(.slice va V.l.length vc), by simp, hf.1⟩
  by_cases k3 : kind = 3
  · subst k3
    have HDO : Hid (V.does ⟨3, a, b, ns, k, n⟩ = V.took a k n) := rfl
    clear k1 k2
    go_wp2_with (first
      | (refine wpList_load_mid rfl 47 _ rfl (g + 1) 3 rfl ns _ (HN3.out HX3.out.ax) Try.underlying47 rfl (by rw [HNO.out.len]; exact Try.infoNote) ?_)
      | fail)
    refine Calls.mono (sv.take w3 K0 V p a k n ns HX3.out.bs.at' HNO.out) ?_
    rintro e w4 ⟨m4, K4, rfl, hm4, he4, hc4, hn4⟩
    have h4 := HX3.out.turn he4 hc4 hn4
    have HX4 : Hid (Pl At w K0 w4 K4 (V.took a k n) p g #[.int .i64 V.nodes, (.slice va V.l.length vc), .bool V.set] ds) := h4
    have HM4 : Hid (NosAt w4 (fun j => j < w4.heap.size) m4 (V.tells k)) := NosAt.mono hm4 (fun j hj _ => hj)
    obtain ⟨ma, mc, rfl, -⟩ := RowAt.form hm4
    obtain ⟨q0, q1, q2⟩ := cells_3 h4.bx
    obtain ⟨e0, e1, e2⟩ := HAC.out h4.ax
    clear he4 h4 hm4 hc4 hn4 hc0 hc1 hc2
    go_wp2_with (first
      | (refine wpList_load_mid rfl 47 _ rfl (g + 1) 3 rfl ns _ (HN3.out HX4.out.ax) Try.underlying47 rfl (by rw [HNO.out.len]; exact Try.infoNote) ?_)
      | fail)
    refine Calls.mono (refTake_any V (.slice va V.l.length vc) a k n ns w4 _ (vws_old HX4.out.bs HV.out.1 HV.out.2) HOK.out HNO.out) ?_
    rintro e w5 ⟨m5, rfl, hm5, hb5⟩
    have HX5 : Hid (Pl At w K0 w5 K4 (V.took a k n) p g #[.int .i64 V.nodes, (.slice va V.l.length vc), .bool V.set] ds) := HX4.out.on sv hb5
    have HV5 : Hid (VwsAt w5 (fun j => ((S j ∧ j < w.heap.size) ∧ ¬ K4 j) ∨ w4.heap.size ≤ j) (.slice va V.l.length vc) (V.took a k n).l ∧ w4.heap.size ≤ w5.heap.size) := ⟨by rw [show (V.took a k n).l = V.l by unfold SvT.took; split; unfold SvT.sett; split <;> rfl; rfl]; exact VwsAt.mono (VwsAt.keep (vws_old HX4.out.bs HV.out.1 HV.out.2) (Kp.of_below hb5 _)) (fun j _ h => .inl h), hb5.size⟩
    have HM5 : Hid (NosAt w5 (fun j => j < w4.heap.size) (.slice ma (V.tells k).length mc) (V.tells k) ∧ NosAt w5 (fun j => w4.heap.size ≤ j) m5 (V.tells k)) := ⟨NosAt.keep HM4.out (Kp.of_below hb5 _), hm5⟩
    obtain ⟨na, nc, rfl, -⟩ := RowAt.form hm5
    clear hb5 hm5 q0 q1 q2 e0 e1 e2 HM4
    go_upto_region 14 with fail
    obtain ⟨w6, hw6⟩ : ∃ w6, w5.alloc (.cells #[.int .i64 V.nodes, (.slice va V.l.length vc), .bool (V.took a k n).set] 30) = w6 := ⟨_, rfl⟩
    obtain ⟨d, hd⟩ : ∃ d, w5.heap.size = d := ⟨_, rfl⟩
    have hB6 : Below w5.heap.size w5 w6 := by rw [← hw6]; exact (Below.refl _ _).alloc (Nat.le_refl _) _
    have HX6 : Hid (Pl At w K0 w6 K4 (V.took a k n) p g #[.int .i64 V.nodes, (.slice va V.l.length vc), .bool V.set] ds) := HX5.out.on sv hB6
    have HV6 : Hid (VwsAt w6 (fun j => (S j ∨ w.heap.size ≤ j) ∧ ¬ K4 j ∧ j ≠ g + 1 + 1) (.slice va V.l.length vc) (V.took a k n).l) := by
      refine VwsAt.mono (VwsAt.keep HV5.out.1 (Kp.of_below hB6 _)) (fun j _ hS => ?_)
      have ho := HX4.out.own
      have hl4 := HX4.out.lt
      rcases hS with ⟨hS, hk⟩ | hS
      · exact ⟨.inl hS.1, hk, by have := hS.2; omega⟩
      · exact ⟨.inr (by omega), fun hk => by have := sv.lt HX4.out.bs.at' j hk; omega, by omega⟩
    have hx6 : w6.heap[d]? = some (.cells #[.int .i64 V.nodes, (.slice va V.l.length vc), .bool (V.took a k n).set] 30 (0, 0)) := by rw [← hw6, ← hd]; exact heap_alloc_new _ _
    rw [hw6, hd]
    have HM6 : Hid (NosAt w6 (fun j => j < w4.heap.size) (.slice ma (V.tells k).length mc) (V.tells k) ∧ NosAt w6 (fun j => w4.heap.size ≤ j) (.slice na (V.tells k).length nc) (V.tells k)) := ⟨NosAt.keep HM5.out.1 (Kp.of_below hB6 _), NosAt.keep HM5.out.2 (Kp.of_below hB6 _)⟩
    have HD6 : Hid (w6.heap[d]? = some (.cells #[.int .i64 V.nodes, (.slice va V.l.length vc), .bool (V.took a k n).set] 30 (0, 0)) ∧ d ≠ g + 1 + 1) := ⟨hx6, by have := HX4.out.lt; have := HV5.out.2; omega⟩
    clear hx6 hw6 hd HX4 HX5 HV5 hB6 HM5
    obtain ⟨w7, hw7⟩ : ∃ w7, w6.drew = w7 := ⟨_, rfl⟩
    have hb7 : Below w6.heap.size w6 w7 := by rw [← hw7]; exact below_drew (Below.refl _ _)
    have HX7 : Hid (Pl At w K0 w7 K4 (V.took a k n) p g #[.int .i64 V.nodes, (.slice va V.l.length vc), .bool V.set] ds) := HX6.out.on sv hb7
    have HD7 : Hid (w7.heap[d]? = some (.cells #[.int .i64 V.nodes, (.slice va V.l.length vc), .bool (V.took a k n).set] 30 (0, 0))) := kept_block hb7 HD6.out.1
    have HV7 : Hid (VwsAt w7 (fun j => (S j ∨ w.heap.size ≤ j) ∧ ¬ K4 j ∧ j ≠ g + 1 + 1) (.slice va V.l.length vc) (V.took a k n).l) := VwsAt.keep HV6.out (Kp.of_below hb7 _)
    have HSN : Hid (Calls Try.prog 22 #[.slice ma (V.tells k).length mc, .slice na (V.tells k).length nc] w7 fun e w' => e = .returned (.bool true) ∧ Below w7.heap.size w7 w') := notes_any (NosAt.keep HM6.out.1 (Kp.of_below hb7 _)) (NosAt.keep HM6.out.2 (Kp.of_below hb7 _))
    refine wp_region_held_drew (S := (fun w' => w'.cell? ⟨d, 0, none⟩ = some (.int .i64 V.nodes) ∧ w'.cell? ⟨d, 1, none⟩ = some (.slice va V.l.length vc) ∧ w'.cell? ⟨d, 2, none⟩ = some (.bool (V.took a k n).set))) (by kernel_rfl) (by rw [hw7]; exact cells_3 HD7.out) (fun hHeld => ?_)
    rw [hw7] at hHeld ⊢
    clear hw7 hb7 HX6 HM6 HV6
    refine wpAnyH_take (i := 0) (v := ?_) rfl (by kernel_rfl) (by kernel_rfl) (by kernel_rfl) (fun _ _ _ h => h) ?_ hHeld ?_
    rotate_left
    · refine Or.inl ⟨by rfl, ?_⟩; intro w hSw; obtain ⟨hh0, hh1, hh2⟩ := hSw; go_simp <;> with_reducible rfl
    try simp only [List.getElem_toArray, List.getElem_cons_succ, List.getElem_cons_zero, Act.put, List.setIfInBounds_toArray, List.set_cons_zero, List.set_cons_succ]
    refine wpAnyH_take (i := 1) (v := ?_) rfl (by kernel_rfl) (by kernel_rfl) (by kernel_rfl) (fun _ _ _ h => h) ?_ hHeld ?_
    rotate_left
    · refine Or.inl ⟨by rfl, ?_⟩; intro w hSw; obtain ⟨hh0, hh1, hh2⟩ := hSw; go_simp <;> with_reducible rfl
    try simp only [List.getElem_toArray, List.getElem_cons_succ, List.getElem_cons_zero, Act.put, List.setIfInBounds_toArray, List.set_cons_zero, List.set_cons_succ]
    refine wpAnyH_take (i := 2) (v := ?_) rfl (by kernel_rfl) (by kernel_rfl) (by kernel_rfl) (fun _ _ _ h => h) ?_ hHeld ?_
    rotate_left
    · refine Or.inl ⟨by rfl, ?_⟩; intro w hSw; obtain ⟨hh0, hh1, hh2⟩ := hSw; go_simp <;> with_reducible rfl
    try simp only [List.getElem_toArray, List.getElem_cons_succ, List.getElem_cons_zero, Act.put, List.setIfInBounds_toArray, List.set_cons_zero, List.set_cons_succ]
    refine wpAnyH_ready (rs := [3]) (by kernel_rfl) (by simp) ?_
    refine AllReadyH.cons rfl (fun K hK => ?_) AllReadyH.nil
    refine step_callx (by rfl) 22 _ _ (by rfl) (fun _ _ => by rfl) [.slice ma (V.tells k).length mc, .slice na (V.tells k).length nc] (by rfl) (HSN.out) ?_
    rintro e w8 ⟨rfl, hb8⟩
    have HX8 : Hid (Pl At w K0 w8 K4 (V.took a k n) p g #[.int .i64 V.nodes, (.slice va V.l.length vc), .bool V.set] ds) := HX7.out.on sv hb8
    have HD8 : Hid (w8.heap[d]? = some (.cells #[.int .i64 V.nodes, (.slice va V.l.length vc), .bool (V.took a k n).set] 30 (0, 0))) := kept_block hb8 HD7.out
    have HV8 : Hid (VwsAt w8 (fun j => (S j ∨ w.heap.size ≤ j) ∧ ¬ K4 j ∧ j ≠ g + 1 + 1) (.slice va V.l.length vc) (V.took a k n).l) := VwsAt.keep HV7.out (Kp.of_below hb8 _)
    clear hb8 HX7 HD7 HV7
    refine ⟨_, rfl, hK.out _ _ (cells_3 HD8.out) (fun hHeld => ?_)⟩
    clear hK K
    try simp only [List.getElem_toArray, List.getElem_cons_succ, List.getElem_cons_zero, Act.put, List.setIfInBounds_toArray, List.set_cons_zero, List.set_cons_succ]
    refine wpAnyH_ready (rs := [4]) (by kernel_rfl) (by simp) ?_
    refine AllReadyH.cons rfl (fun K hK => ?_) AllReadyH.nil
    obtain ⟨r0, r1, r2⟩ := cells_3 HX8.out.rx
    have fr : ∀ o, w8.frozen? ⟨g + 1 + 1, o, none⟩ = false := free_of HX8.out.rx
    go_simp
    refine hK.out _ _ (cells_3 (fillO_3 HD8.out HD6.out.2)) (fun hHeld => ?_)
    clear hK K r0 r1 r2 fr
    try simp only [List.getElem_toArray, List.getElem_cons_succ, List.getElem_cons_zero, Act.put, List.setIfInBounds_toArray, List.set_cons_zero, List.set_cons_succ]
    refine wpAnyH_ready (rs := [5]) (by kernel_rfl) (by simp) ?_
    refine AllReadyH.cons rfl (fun K hK => ?_) AllReadyH.nil
    go_simp
    refine hK.out _ _ hHeld (fun hHeld => ?_)
    clear hK K
    try simp only [List.getElem_toArray, List.getElem_cons_succ, List.getElem_cons_zero, Act.put, List.setIfInBounds_toArray, List.set_cons_zero, List.set_cons_succ]
    refine wpAnyH_done (by kernel_rfl) ?_ _
    go_wp2_with fail
    have hf := Pl.fin sv (x0 := .int .i64 V.nodes) (x1 := (.slice va V.l.length vc)) (x2 := .bool (V.took a k n).set) HX8.out HV8.out
    refine bodyPost_ret (results_cell_tmp rfl _ _ (g + 1 + 1) 30 _ (0, 0) _ _ rfl rfl hf.2 Try.underlying30 rfl (by kernel_rfl)) rfl ?_
    rw [HDO.out]
    exact ⟨(.slice va V.l.length vc), by simp, hf.1⟩
  have b1 : (kind == 1) = false := by simpa using k1
  have b2 : (kind == 2) = false := by simpa using k2
  have b3 : (kind == 3) = false := by simpa using k3
  have HDO : Hid (V.does ⟨kind, a, b, ns, k, n⟩ = V) := by
    show _ = _
    unfold SvT.does
    rw [if_neg k1, if_neg k2, if_neg k3]
  have HV6 : Hid (VwsAt w3 (fun j => (S j ∨ w.heap.size ≤ j) ∧ ¬ K0 j ∧ j ≠ g + 1 + 1) (.slice va V.l.length vc) V.l) := VwsAt.mono (vws_old HX3.out.bs HV.out.1 HV.out.2) (fun j _ hS => ⟨.inl hS.1.1, hS.2, by have := hS.1.2; have := HX3.out.own; omega⟩)
  obtain ⟨q0, q1, q2⟩ := cells_3 HX3.out.bx
  obtain ⟨r0, r1, r2⟩ := cells_3 HX3.out.rx
  have fr : ∀ o, w3.frozen? ⟨g + 1 + 1, o, none⟩ = false := free_of HX3.out.rx
  clear k1 k2 k3 hc1 hc2
  go_wp2_with fail
  have hf := Pl.fin sv (x0 := .int .i64 V.nodes) (x1 := (.slice va V.l.length vc)) (x2 := .bool (V).set) HX3.out HV6.out
  refine bodyPost_ret (results_cell_tmp rfl _ _ (g + 1 + 1) 30 _ (0, 0) _ _ rfl rfl hf.2 Try.underlying30 rfl (by kernel_rfl)) rfl ?_
  rw [HDO.out]
  exact ⟨(.slice va V.l.length vc), by simp, hf.1⟩
end Go.Proofs.Ytlbhnlpdijhmlab
