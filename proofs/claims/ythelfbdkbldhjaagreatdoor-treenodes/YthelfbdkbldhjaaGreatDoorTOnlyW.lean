/-
  tree: Load in the midst of a script, on both trees.
-/
import Derived.Test.YthelfbdkbldhjaaGreatDoorTRefF
import Derived.Test.YthelfbdkbldhjaaGreatDoorTRefJ
import Derived.Test.YthelfbdkbldhjaaGreatDoorRefNames
import Derived.Test.YthelfbdkbldhjaaGreatDoorTPlyY
import Derived.Test.YthelfbdkbldhjaaGreatDoorTPartL
import Derived.Deep.CutRange
namespace Go.Proofs.YthelfbdkbldhjaaGreatDoor
open Go.RowKit Go.Maps Go.WideShapes
set_option linter.unusedVariables false
set_option linter.unusedSimpArgs false

set_option maxHeartbeats 6400000 in
set_option maxRecDepth 100000 in
theorem ply_load (W w : World) (db tb q : Nat) (dv : Value) (a : Option Addr) (c : Nat) (T : List Nd) (h : Sit W w db tb q dv a T) (hg : GroundT W) (s st nn : Int) (oa : Option Addr) (n oc : Nat) (pl : ByteArray) :
    Calls Tryz.prog 11 #[.pointer (some ⟨tb, 0, none⟩), rtV a T.length c, .agg (stCs 5 s st oa n oc pl nn), .pointer (some ⟨db, 0, none⟩)] w (PlE W w db tb q dv T) := by
  have h64 : T.length ≤ 64 := h.tr.snd.inv.len
  have HNO : Hid (∀ w', Below w.heap.size w w' → _) := fun w' hb => nodes_tr W.heap.size tb q T w' (h.tr.below hb)
  have HRN : Hid (∀ w', Below w.heap.size w w' → _) := fun w' hb => refNodes_any a c T w' (h.nds.below hb) h64
  have HLO : Hid (∀ (w' : World) (B g cap : Nat), Below w.heap.size w w' → w'.ownsRow B 45 7 (.slice (some ⟨g, 0, none⟩) T.length cap) T.length (T.flatMap Nd.cs) → _) := fun w' B g cap hb hr => load_any B g cap T w' h.tr.snd h.rng hr (hg.below (trans2 h.low hb))
  have HRL : Hid (∀ (w' : World) (la : Option Addr) (lc : Nat), NdsAt w' la T → _) := fun w' la lc hn => refLoad_ok la lc T w' h.tr.snd h.rng hn
  obtain ⟨N, hN⟩ : ∃ N, T.length = N := ⟨_, rfl⟩
  have HN : Hid (T.length = N) := hN
  have H : Hid _ := h
  have hwl := h.low.size
  rw [hN] at HNO HRN HLO HRL ⊢
  clear hN h hg
  have HS : Hid _ := plI_start w (.slice a N c) (stCs 5 s st oa n oc pl nn)
  go_enter Tryz.func11, Tryz.ntmps11
  go_wp2_with fail
  refine Calls.mono (HNO.out _ HS.out.low) ?_
  rintro e w1 ⟨g, cap, rfl, hr1, hb1⟩
  have H1 : Hid (PlI w w1 (.slice a N c) (stCs 5 s st oa n oc pl nn)) := HS.out.below hb1
  have HR1 : Hid _ := hr1
  clear hb1 hr1
  go_wp2_with fail
  refine Calls.mono (HLO.out _ _ _ _ H1.out.low HR1.out) ?_
  rintro e w2 ⟨ub, rfl, ht2, hb2⟩
  have H2 : Hid (PlI w w2 (.slice a N c) (stCs 5 s st oa n oc pl nn)) := H1.out.below hb2
  have HT2 : Hid (TrAt w2 w1.heap.size ub 8 T) := ht2
  have r0 := cells_1 H2.out.tr
  clear hb2 ht2
  go_wp2_with fail
  refine Calls.mono (HRN.out _ H2.out.low) ?_
  rintro e w3 ⟨v3, rfl, hr3, hb3⟩
  obtain ⟨la, lc, rfl⟩ := slice_of' hr3
  have H3 : Hid (PlI w w3 (.slice a N c) (stCs 5 s st oa n oc pl nn)) := H2.out.below hb3
  have HT3 : Hid (TrAt w3 w1.heap.size ub 8 T) := HT2.out.below hb3
  have HN3 : Hid (NdsAt w3 la T) := nds_row' hr3
  clear hb3 hr3 r0
  go_wp2_with fail
  refine Calls.mono (HRL.out _ la lc HN3.out) ?_
  rintro e w4 ⟨la4, lc4, rfl, hn4, hb4⟩
  have H4 : Hid (PlI w w4 (.slice a N c) (stCs 5 s st oa n oc pl nn)) := H3.out.below hb4
  have HT4 : Hid (TrAt w4 w1.heap.size ub 8 T) := HT3.out.below hb4
  clear hb4 hn4
  go_upto_region 26 with fail
  obtain ⟨w5, hw5⟩ : ∃ y, w4.alloc (.cells #[.slice la4 N lc4] 27) = y := ⟨_, rfl⟩
  have hb5 : Below w4.heap.size w4 w5 := by rw [← hw5]; exact (Below.refl _ _).alloc (Nat.le_refl _) _
  have H5 : Hid (PlI w w5 (.slice a N c) (stCs 5 s st oa n oc pl nn)) := H4.out.below hb5
  have HT5 : Hid (TrAt w5 w1.heap.size ub 8 T) := HT4.out.below hb5
  rw [hw5]
  obtain ⟨yb, hyb⟩ : ∃ y, w4.heap.size = y := ⟨_, rfl⟩
  rw [hyb]
  clear hw5 hb5 hyb
  have q0 := cells_1 H5.out.tr
  have q1 := cells_1 H5.out.rs
  have g1 := free_1 H5.out.rs
  go_wp2_with (first | (go_at_call 27; go_in) | fail)
  have n1 : w.heap.size + 1 + 1 ≠ w.heap.size := by omega
  have n2 : w.heap.size ≠ w.heap.size + 1 + 1 := by omega
  go_region_held3 (fun w' => w'.cell? ⟨w.heap.size, 0, none⟩ = some (.slice a N c)) (first | go_keep | exact q0 | exact (World.cell?_drew _ _).trans ((cellN n2).trans q0)) (fail)
  go_wp2_with fail
  have hbE : Below w.heap.size w ((w5.setCell ⟨w.heap.size + 1 + 1, 0, none⟩ (.slice a N c)).drew) := below_drew (H5.out.low.setCell (by simp; omega) _)
  have hcE : Chg w5 ((w5.setCell ⟨w.heap.size + 1 + 1, 0, none⟩ (.slice a N c)).drew) (fun k => k = w.heap.size + 1 + 1) := (Chg.set _ _ _).trans (Chg.of_below (below_drew0 _) _)
  have hl1 : w.heap.size ≤ w1.heap.size := H1.out.low.size
  refine bodyPost_ret (results_tmp_cell_tmp rfl _ _ (w.heap.size + 1 + 1) 27 #[.slice a N c] (0, 0) _ (.pointer (some ⟨ub, 0, none⟩)) (.bool true) rfl rfl rfl ((heap_drew_at _ _).trans (same_blk H5.out.rs rfl)) Tryz.underlying27 rfl (by kernel_rfl)) rfl ⟨ub, 8, dv, a, c, by rw [HN.out], ⟨trans2 H.out.low hbE, H.out.desk.below hbE, ?_, H.out.nds.below hbE, H.out.rng⟩, .inr (Nat.le_refl _), Chg.of_below hbE _, .inr (Nat.le_trans hl1 HT5.out.lo)⟩
  exact (HT5.out.base (B' := W.heap.size) (by omega)).chg hcE (fun k e => .inl ⟨#[.slice none 0 0], 27, by decide, by rw [show k = w.heap.size + 1 + 1 from e]; exact H5.out.rs⟩)
end Go.Proofs.YthelfbdkbldhjaaGreatDoor
namespace Go.Proofs.YthelfbdkbldhjaaGreatDoor
open Go.RowKit Go.ChangeShapes Go.WideShapes Go.ChangeAt
set_option linter.unusedSimpArgs false

theorem ops_ofD {H : Type} {enc : TypeId × Value → H} {W : World} {n : Nat} {v : Value} {y : DataW H × List MemPlace} (h : DataW.trod enc Tryz.prog W 0 (fun _ => true) true n 30 [v] = some y) (hz : ∀ m ∈ y.1.weights Tryz.prog 30, m ≤ reachBytes) :
    ∃ a c os, v = .slice a os.length c ∧ OpsAt W W.heap.size a os ∧ (os.length ≤ 2513169434846 ∧ os.length ≤ c) ∧ ∀ o ∈ os, o.Ok := by
  rcases Go.Deep.open_slice Tryz.underlying30 h with ⟨hcs, _⟩ | ⟨x, len, cap, m, n', D, Pl, hcs, _, hl, hm, hmm, hxx, hx⟩
  · have hv : v = .slice none 0 0 := by simpa using hcs
    subst hv
    exact ⟨none, 0, [], rfl, fun i o hi => by simp at hi, ⟨Nat.zero_le _, Nat.zero_le _⟩, fun o ho => by cases ho⟩
  · have hv : v = .slice (some x) len cap := by simpa using hcs
    subst hv
    have hmc : m = cap := by simpa using hmm
    subst hmc
    have hw : len * 56 ≤ reachBytes := by
      refine Nat.le_trans ?_ (hz ((((List.range len).map D).length + ((List.range (m - len)).map fun j => D (len + j)).length) * Tryz.prog.bytesOf 63) (by rw [hxx]; simp [DataW.weights, Tryz.underlying30]))
      rw [bytesOp]
      simp
      omega
    have each : ∀ i, i < len → ∃ o : OpT, o.Ok ∧ ∀ j x', o.cells[j]? = some x' → W.cell? ((x.add (i * 5)).add j) = some x' := by
      intro i hi
      obtain ⟨cs', h1, h2⟩ := hx i (by omega)
      obtain ⟨o, rfl, hok⟩ := op_of h2
      rw [cellsOp] at h1
      obtain ⟨_, _, hc⟩ := World.cells?_some h1
      exact ⟨o, hok, fun j x' hj => by rw [hc j (by have := (List.getElem?_eq_some_iff.1 hj).1; simpa using this)]; exact hj⟩
    obtain ⟨l, hll, hls⟩ := list_of len each
    subst hll
    refine ⟨some x, m, l, rfl, fun i o hi => ?_, ?_, fun o ho => ?_⟩
    · have hi0 : 0 < l.length := by have := (List.getElem?_eq_some_iff.1 hi).1; omega
      have hc0 := (hls 0 l[0] (List.getElem?_eq_getElem hi0)).2 0 _ rfl
      obtain ⟨b, f, rfl, hb⟩ : ∃ b f, x = ⟨b, f, none⟩ ∧ b < W.heap.size := by
        obtain ⟨b, f, spot⟩ := x
        have hs : spot = none := by simpa [Addr.add] using World.cell?_spot hc0
        subst hs
        exact ⟨b, f, rfl, by have := World.block_lt_of_cell? _ _ hc0; simpa [Addr.add] using this⟩
      refine ⟨b, f, rfl, hb, fun j x' hj => ?_⟩
      have := (hls i o hi).2 j x' hj
      rw [addr_add', addr_add'] at this
      exact this
    · refine ⟨?_, hl⟩
      unfold reachBytes at hw
      omega
    · obtain ⟨i, hi⟩ := List.mem_iff_getElem?.1 ho
      exact (hls i o hi).1
theorem step_ofD {H : Type} {enc : TypeId × Value → H} {W : World} {n : Nat} {cs : List Value} {y : DataW H × List MemPlace} (h : DataW.trod enc Tryz.prog W 0 (fun _ => true) true n 34 cs = some y) (hz : ∀ m ∈ y.1.weights Tryz.prog 34, m ≤ reachBytes) :
    ∃ x : StT, cs = x.cells ∧ OpsAt W W.heap.size x.a x.os ∧ (∀ o ∈ x.os, o.Ok) ∧ x.os.length ≤ 2513169434846 := by
  obtain ⟨xs, m, _, hx, hl, hxl, hf⟩ := DataW.trod_struct Tryz.underlying34 h
  rw [cellsStep] at hl
  obtain ⟨c0, c1, c2, c3, c4, c5, rfl⟩ := list6 hl
  obtain ⟨x0, x1, x2, x3, x4, x5, rfl⟩ := list6 (l := xs) hxl
  obtain ⟨z0, q0, _⟩ := DataW.trod_int Tryz.underlying3 (hf 0 _ rfl)
  obtain ⟨z1, q1, _⟩ := DataW.trod_int Tryz.underlying3 (hf 1 _ rfl)
  obtain ⟨z2, q2, _⟩ := DataW.trod_int Tryz.underlying3 (hf 2 _ rfl)
  have g3 : DataW.trod enc Tryz.prog W 0 (fun _ => true) true m 30 (([c0, c1, c2, c3, c4, c5].drop 3).take (Tryz.prog.cellsOf 30)) = [x0, x1, x2, x3, x4, x5][3]? := hf 3 _ rfl
  rw [cellsOps] at g3
  have g3' : DataW.trod enc Tryz.prog W 0 (fun _ => true) true m 30 [c3] = some x3 := g3
  clear g3
  obtain ⟨z4, q4, _⟩ := DataW.trod_string Tryz.underlying9 (hf 4 _ rfl)
  obtain ⟨z5, q5, _⟩ := DataW.trod_int Tryz.underlying3 (hf 5 _ rfl)
  simp [cells3', cells9'] at q0 q1 q2 q4 q5
  subst q0 q1 q2 q4 q5
  obtain ⟨a, c, os, rfl, ho, hcp, hol⟩ := ops_ofD g3' (fun k hk => hz k (by
    rw [hx]
    simp only [DataW.weights, Tryz.underlying34]
    exact DataW.weights_mem_each (j := 3) rfl rfl k hk))
  exact ⟨⟨z0, z1, z2, a, c, os, z4, z5⟩, rfl, ho, hol, hcp.1⟩
theorem steps_ofD {H : Type} {enc : TypeId × Value → H} {W : World} {a : Option Addr} {len cap : Nat} {d : DataW H} {p : List MemPlace}
    (h : DataW.Trod enc Tryz.prog W 0 (fun _ => true) true 22 (.slice a len cap) d p) (hz : ∀ m ∈ d.weights Tryz.prog 22, m ≤ reachBytes) :
    ∃ l : List StT, len = l.length ∧ (Steps W a l ∧ ∀ x ∈ l, x.os.length ≤ 2513169434846) ∧ l.length ≤ maxLen := by
  obtain ⟨fuel, hf⟩ := h
  rcases Go.Deep.open_slice Tryz.underlying22 hf with ⟨hcs, _⟩ | ⟨x, len', cap', m, n', D, Pl, hcs, _, hl, hm, hmm, hxx, hx⟩
  · simp [Value.cells] at hcs
    obtain ⟨rfl, rfl, rfl⟩ := hcs
    exact ⟨[], rfl, ⟨fun i o hi => by simp at hi, fun x hx => by cases hx⟩, Nat.zero_le _⟩
  · simp [Value.cells] at hcs
    obtain ⟨rfl, rfl, rfl⟩ := hcs
    have hmc : m = cap := by simpa using hmm
    subst hmc
    simp only [Prod.mk.injEq] at hxx
    have each : ∀ i, i < len → ∃ s : StT, OpsAt W W.heap.size s.a s.os ∧ ((∀ o ∈ s.os, o.Ok) ∧ s.os.length ≤ 2513169434846) ∧ ∀ j x', s.cells[j]? = some x' → W.cell? ((x.add (i * 6)).add j) = some x' := by
      intro i hi
      obtain ⟨cs', h1, h2⟩ := hx i (by omega)
      obtain ⟨s, rfl, ho, hol⟩ := step_ofD h2 (fun k hk => hz k (by
        rw [hxx.1]
        simp only [DataW.weights, Tryz.underlying22, List.mem_cons, List.mem_append]
        exact .inr (.inl (weights_all (List.mem_map.2 ⟨i, List.mem_range.2 hi, rfl⟩) hk))))
      rw [cellsStep] at h1
      obtain ⟨_, _, hc⟩ := World.cells?_some h1
      exact ⟨s, ho, hol, fun j x' hj => by rw [hc j (by have := (List.getElem?_eq_some_iff.1 hj).1; simpa using this)]; exact hj⟩
    obtain ⟨l, hll, hls⟩ := list_of len each
    subst hll
    refine ⟨l, rfl, ⟨fun i s hi => ?_, fun s hs => ?_⟩, Nat.le_trans hl hm⟩
    rotate_left
    · obtain ⟨i, hi⟩ := List.mem_iff_getElem?.1 hs
      exact (hls i s hi).2.1.2
    obtain ⟨ho, hol, hc⟩ := hls i s hi
    have hi0 : 0 < l.length := by have := (List.getElem?_eq_some_iff.1 hi).1; omega
    have hc0 := (hls 0 l[0] (List.getElem?_eq_getElem hi0)).2.2 0 _ rfl
    obtain ⟨b, f, rfl, hb⟩ : ∃ b f, x = ⟨b, f, none⟩ ∧ b < W.heap.size := by
      obtain ⟨b, f, spot⟩ := x
      have hs : spot = none := by simpa [Addr.add] using World.cell?_spot hc0
      subst hs
      exact ⟨b, f, rfl, by have := World.block_lt_of_cell? _ _ hc0; simpa [Addr.add] using this⟩
    refine ⟨b, f, rfl, hb, fun j x' hj => ?_, ho, hol.1⟩
    have := hc j x' hj
    rw [addr_add', addr_add'] at this
    exact this
end Go.Proofs.YthelfbdkbldhjaaGreatDoor
namespace Go.Proofs.YthelfbdkbldhjaaGreatDoor
open Go.RowKit Go.Maps Go.WideShapes
set_option linter.unusedVariables false
set_option linter.unusedSimpArgs false

theorem ply_any (W w : World) (db tb q : Nat) (dv : Value) (a : Option Addr) (c : Nat) (T : List Nd) (h : Sit W w db tb q dv a T) (hg : GroundT W) (hgc : GroundC W) (hq : q ≤ 900) (x : StT) (ho : OpsAt W W.heap.size x.a x.os) (hok : ∀ o ∈ x.os, o.Ok) (hl : x.os.length ≤ 2513169434846) :
    Calls Tryz.prog 11 #[.pointer (some ⟨tb, 0, none⟩), rtV a T.length c, .agg #[.int .i64 x.k, .int .i64 x.s, .int .i64 x.st, .slice x.a x.os.length x.c, .string x.pl, .int .i64 x.nn], .pointer (some ⟨db, 0, none⟩)] w (PlE W w db tb q dv (runS T x)) := by
  obtain ⟨k, s, st, oa, oc, os, pl, nn⟩ := x
  show Calls _ _ #[.pointer (some ⟨tb, 0, none⟩), rtV a T.length c, .agg (stCs k s st oa os.length oc pl nn), .pointer (some ⟨db, 0, none⟩)] w (PlE W w db tb q dv (if k = 1 then (playM T s st os).T else if k = 2 then finT T s else T))
  by_cases h1 : k = 1
  · subst h1
    rw [if_pos rfl]
    exact ply_play W w db tb q dv a c T h hg hgc hq os s st nn oa oc pl ho hok hl
  rw [if_neg h1]
  by_cases h2 : k = 2
  · subst h2
    rw [if_pos rfl]
    exact ply_end W w db tb q dv a c T h hq s st nn oa os.length oc pl
  rw [if_neg h2]
  by_cases h3 : k = 3
  · subst h3
    exact ply_part W w db tb q dv a c T h hg s st nn oa os.length oc pl
  by_cases h4 : k = 4
  · subst h4
    exact ply_nodes W w db tb q dv a c T h s st nn oa os.length oc pl
  by_cases h5 : k = 5
  · subst h5
    exact ply_load W w db tb q dv a c T h hg s st nn oa os.length oc pl
  exact ply_else W w db tb q dv a c T h k s st nn oa os.length oc pl h1 h2 h3 h4 h5
theorem PlE.keep {W w w' : World} {db tb q : Nat} {dv : Value} {a : Option Addr} {T : List Nd} (h : Sit W w db tb q dv a T) (hc : Chg w w' (fun k => k = tb ∨ k = db ∨ dv.ownBlock = some k)) {b : Nat} {cs : Array Value} (hb : w.heap[b]? = some (.cells cs 27 (0, 0))) : w'.heap[b]? = some (.cells cs 27 (0, 0)) := kept_chg hc hb (fun e => by
  obtain ⟨tv, ht⟩ := h.tr.box
  obtain ⟨hd, _, n, xs, hr⟩ := h.desk
  rcases e with e | e | e
  · rw [e, ht] at hb
    simp at hb
  · rw [e, hd] at hb
    simp at hb
  · obtain ⟨cur, h9⟩ := owns_kind hr e
    rw [h9] at hb
    simp at hb)
theorem Sit.set {W w : World} {db tb q b : Nat} {dv v : Value} {a : Option Addr} {T : List Nd} {cs : Array Value} (h : Sit W w db tb q dv a T) (hb : w.heap[b]? = some (.cells cs 27 (0, 0))) (hW : W.heap.size ≤ b) : Sit W (w.setCell ⟨b, 0, none⟩ v) db tb q dv a T :=
  h.chg (Chg.set _ _ _) (fun k e => by
    rw [show k = b from e]
    exact ⟨hW, cs, 27, by decide, by decide, by decide, by decide, hb⟩)
theorem below_da (w : World) (o : Obj) : Below w.heap.size w (w.alloc o).drew := below_drew ((Below.refl _ _).alloc (Nat.le_refl _) _)
set_option maxHeartbeats 16000000 in
set_option maxRecDepth 100000 in
theorem only_any (W : World) (a : Option Addr) (c : Nat) (l : List StT) (kd : Int) (hl : l.length ≤ maxLen) (hs : Steps W a l) (hol : ∀ x ∈ l, x.os.length ≤ 2513169434846) (hg : GroundT W) (hgc : GroundC W) :
    Calls Tryz.prog 16 #[.slice a l.length c, .int .i64 kd] W fun e w' => e = .returned (.bool true) ∧ Below W.heap.size W w' := by
  unfold maxLen at hl
  have HS : Hid (Steps W a l) := hs
  have HOLA : Hid _ := hol
  have HG : Hid (GroundT W) := hg
  have HGC : Hid (GroundC W) := hgc
  obtain ⟨N, hN⟩ : ∃ N, l.length = N := ⟨_, rfl⟩
  have HN : Hid (l.length = N) := hN
  rw [hN] at hl ⊢
  clear hs hg hgc hol hN
  go_enter Tryz.func16, Tryz.ntmps16
  go_wp2_with fail
  refine Calls.mono (new_tr W) ?_
  rintro e w1 ⟨tb0, rfl, ht1, hb1⟩
  have HT1 : Hid (TrAt w1 W.heap.size tb0 0 [rootN]) := ht1
  have HB1 : Hid (Below W.heap.size W w1) := hb1
  clear ht1 hb1
  go_wp2_with fail
  refine Calls.mono (refNew_any w1) ?_
  rintro e w2 ⟨g2, rfl, hn2, hb2⟩
  have HT2 : Hid (TrAt w2 W.heap.size tb0 0 [rootN]) := HT1.out.below hb2
  have HB2 : Hid (Below W.heap.size W w2) := trans2 HB1.out hb2
  have HN2 : Hid (NdsAt w2 (some ⟨g2, 0, none⟩) [rootN]) := hn2
  clear hn2 hb2
  go_upto_region 6 with fail
  obtain ⟨w3, hw3⟩ : ∃ y, (w2.alloc (.cells #[.slice (some ⟨g2, 0, none⟩) 1 1] 27)).alloc (.cells #[.slice none 0 0] 32) = y := ⟨_, rfl⟩
  obtain ⟨vb, hvb⟩ : ∃ y, w2.heap.size = y := ⟨_, rfl⟩
  have hb3 : Below w2.heap.size w2 w3 := by rw [← hw3]; exact ((Below.refl _ _).alloc (Nat.le_refl _) _).alloc (by simp) _
  have HV3 : Hid (w3.heap[vb]? = some (.cells #[.slice (some ⟨g2, 0, none⟩) [rootN].length 1] 27 (0, 0))) := by rw [← hw3, ← hvb]; exact heap_alloc2_old _ _ _
  have HD3 : Hid (DeskAt w3 W.heap.size (vb + 1) (.slice none 0 0)) := ⟨by rw [← hw3, ← hvb]; exact heap_alloc2_new _ _ _, by rw [← hvb]; have := HB2.out.size; omega, 0, [], World.ownsRow_nil _ _ _ _⟩
  have HS3 : Hid (Sit W w3 (vb + 1) tb0 0 (.slice none 0 0) (some ⟨g2, 0, none⟩) [rootN]) := ⟨trans2 HB2.out hb3, HD3.out, HT2.out.below hb3, HN2.out.below hb3, rng_new⟩
  have HVW : Hid (W.heap.size ≤ vb) := by rw [← hvb]; exact HB2.out.size
  rw [hw3, hvb]
  clear hw3 hvb hb3
  go_wp2_with fail
  go_loopw [5, 8] (fun t i wr => ∃ (p tb q : Nat) (dv : Value) (a' : Option Addr) (c' : Nat) (T : List Nd), t = .pointer (some ⟨tb, 0, none⟩) ∧ i = .int .i64 p ∧ p ≤ N ∧ p ≤ 120 ∧ q ≤ 8 + p ∧ Hid (Sit W wr (vb + 1) tb q dv a' T) ∧ Hid (wr.heap[vb]? = some (.cells #[.slice a' T.length c'] 27 (0, 0)))) (fun _ i _ => N - (intOf i).toNat)
  case atStart => exact ⟨0, tb0, 0, _, _, 1, [rootN], rfl, rfl, Nat.zero_le _, Nat.zero_le _, Nat.zero_le _, HS3.out, HV3.out⟩
  case round =>
    obtain ⟨p, tb, q, dv, a', c', T, rfl, rfl, hp, hp120, hq, HSr, HVr⟩ := hrel
    have HBr : Hid (Below W.heap.size W wr) := HSr.out.low
    by_cases hlt : p < N
    · have hlt' : (p : Int) < (N : Int) := by omega
      by_cases h120 : (p : Int) < 120
      · obtain ⟨x, hx⟩ : ∃ x, l[p]? = some x := ⟨l[p]'(by rw [HN.out]; exact hlt), List.getElem?_eq_getElem _⟩
        have HPL : Hid (∀ w', Below wr.heap.size wr w' → Calls Tryz.prog 11 #[.pointer (some ⟨tb, 0, none⟩), rtV a' T.length c', .agg #[.int .i64 x.k, .int .i64 x.s, .int .i64 x.st, .slice x.a x.os.length x.c, .string x.pl, .int .i64 x.nn], .pointer (some ⟨vb + 1, 0, none⟩)] w' (PlE W w' (vb + 1) tb q dv (runS T x))) := fun w' hb => by
          obtain ⟨b, f, _, _, _, ho, hok⟩ := HS.out p x hx
          exact ply_any W w' (vb + 1) tb q dv a' c' T (HSr.out.below hb) HG.out HGC.out (by omega) x ho hok (HOLA.out x (List.mem_of_getElem? hx))
        obtain ⟨b, f, rfl, hbl, hcs, _, _⟩ := HS.out p x hx
        have hcell : ∀ w', Below W.heap.size W w' → ∀ j v, x.cells[j]? = some v → w'.cell? ⟨b, f + p * 6 + j, none⟩ = some v := fun w' hb j v hv => by rw [hb.cell (p := ⟨b, f + p * 6 + j, none⟩) hbl]; exact hcs j v hv
        have HCE : Hid _ := hcell
        have k0 : wr.cell? ⟨b, f + p * 6, none⟩ = some (.int .i64 x.k) := hcell wr HBr.out 0 _ rfl
        have k1 := hcell wr HBr.out 1 _ rfl
        have k2 := hcell wr HBr.out 2 _ rfl
        have k3' := hcell wr HBr.out 3 _ rfl
        have k4 := hcell wr HBr.out 4 _ rfl
        have k5 := hcell wr HBr.out 5 _ rfl
        have v0 := cells_1 HVr.out
        obtain ⟨T2, hT2⟩ : ∃ y, runS T x = y := ⟨_, rfl⟩
        obtain ⟨TN, hTN⟩ : ∃ y, T.length = y := ⟨_, rfl⟩
        obtain ⟨ON, hON⟩ : ∃ y, x.os.length = y := ⟨_, rfl⟩
        rw [hT2, hTN, hON] at HPL
        rw [hTN] at v0
        have k3 : wr.cell? ⟨b, f + p * 6 + 3, none⟩ = some (.slice x.a ON x.c) := by rw [← hON]; exact k3'
        have HON : Hid (x.os.length = ON) := hON
        have HTN : Hid (T.length = TN) := hTN
        have hwl : vb < wr.heap.size := (Array.getElem?_eq_some_iff.1 HVr.out).1
        have hWr := HBr.out.size
        have hVW := HVW.out
        have eb : b ≠ wr.heap.size := by omega
        have ev : vb ≠ wr.heap.size := by omega
        clear hcell hcs hx hT2 hTN hON k3'
        go_wp2_with fail
        go_cut [9, 10, 11] from 18 to 56 (fun s9 s10 s11 wc => ∃ (yb tb2 q2 : Nat) (dv2 : Value) (a2 : Option Addr) (c2 : Nat) (v2 : Value), s9 = .pointer (some ⟨tb2, 0, none⟩) ∧ s10 = .pointer (some ⟨yb, 0, none⟩) ∧ s11 = .bool true ∧ Hid (wc.heap[yb]? = some (.cells #[.slice a2 T2.length c2] 27 (0, 0))) ∧ yb ≠ vb ∧ Hid (Sit W wc (vb + 1) tb2 q2 dv2 a2 T2) ∧ (q2 ≤ q + 1 ∨ q2 ≤ 8) ∧ Hid (wc.heap[vb]? = some (.cells #[v2] 27 (0, 0))))
        case first =>
          go_region_held3 (fun w' => w'.cell? ⟨vb, 0, none⟩ = some (.slice a' TN c') ∧ w'.cell? ⟨b, f + p * 6, none⟩ = some (.int .i64 x.k) ∧ w'.cell? ⟨b, f + p * 6 + 1, none⟩ = some (.int .i64 x.s) ∧ w'.cell? ⟨b, f + p * 6 + 2, none⟩ = some (.int .i64 x.st) ∧ w'.cell? ⟨b, f + p * 6 + 3, none⟩ = some (.slice x.a ON x.c) ∧ w'.cell? ⟨b, f + p * 6 + 4, none⟩ = some (.string x.pl) ∧ w'.cell? ⟨b, f + p * 6 + 5, none⟩ = some (.int .i64 x.nn)) (first | go_keep | exact ⟨v0, k0, k1, k2, k3, k4, k5⟩ | exact ⟨(cellN ev).trans v0, (cellN eb).trans k0, (cellN eb).trans k1, (cellN eb).trans k2, (cellN eb).trans k3, (cellN eb).trans k4, (cellN eb).trans k5⟩)
            (first
            | (go_at_call 11; refine Calls.mono (HPL.out _ (below_drew0 wr)) ?_; rintro e w4 ⟨tb4, q4, dv4, a4, c4, rfl, hs4, hq4, hc4, _⟩
               have HS4 : Hid (Sit W w4 (vb + 1) tb4 q4 dv4 a4 T2) := hs4
               have HV4 : Hid _ := PlE.keep HSr.out (chg_undrew hc4) HVr.out
               have hw4 : wr.heap.size ≤ w4.heap.size := hc4.size
               clear hs4 hc4 v0 k0 k1 k2 k3 k4 k5
               have v0 : w4.cell? ⟨vb, 0, none⟩ = some (.slice a' TN c') := by rw [← HTN.out]; exact cells_1 HV4.out
               have k0 : w4.cell? ⟨b, f + p * 6, none⟩ = some (.int .i64 x.k) := HCE.out w4 HS4.out.low 0 _ rfl
               have k1 := HCE.out w4 HS4.out.low 1 _ rfl
               have k2 := HCE.out w4 HS4.out.low 2 _ rfl
               have k3 : w4.cell? ⟨b, f + p * 6 + 3, none⟩ = some (.slice x.a ON x.c) := by rw [← HON.out]; exact HCE.out w4 HS4.out.low 3 _ rfl
               have k4 := HCE.out w4 HS4.out.low 4 _ rfl
               have k5 := HCE.out w4 HS4.out.low 5 _ rfl)
            | (go_at_call 11; refine Calls.mono (HPL.out _ (below_da wr _)) ?_; rintro e w4 ⟨tb4, q4, dv4, a4, c4, rfl, hs4, hq4, hc4, _⟩
               have HS4 : Hid (Sit W w4 (vb + 1) tb4 q4 dv4 a4 T2) := hs4
               have HSA : Hid (Sit W (wr.alloc (.cells #[.slice none 0 0] 27)) (vb + 1) tb q dv a' T) := HSr.out.below ((Below.refl _ _).alloc (Nat.le_refl _) _)
               have HV4 : Hid _ := PlE.keep HSA.out (chg_undrew hc4) (heap_alloc_old HVr.out)
               have HZ4 : Hid (w4.heap[wr.heap.size]? = some (.cells #[.slice none 0 0] 27 (0, 0))) := PlE.keep HSA.out (chg_undrew hc4) (heap_alloc_new _ _)
               clear hs4 hc4 v0 k0 k1 k2 k3 k4 k5
               have v0 : w4.cell? ⟨vb, 0, none⟩ = some (.slice a' TN c') := by rw [← HTN.out]; exact cells_1 HV4.out
               have k0 : w4.cell? ⟨b, f + p * 6, none⟩ = some (.int .i64 x.k) := HCE.out w4 HS4.out.low 0 _ rfl
               have k1 := HCE.out w4 HS4.out.low 1 _ rfl
               have k2 := HCE.out w4 HS4.out.low 2 _ rfl
               have k3 : w4.cell? ⟨b, f + p * 6 + 3, none⟩ = some (.slice x.a ON x.c) := by rw [← HON.out]; exact HCE.out w4 HS4.out.low 3 _ rfl
               have k4 := HCE.out w4 HS4.out.low 4 _ rfl
               have k5 := HCE.out w4 HS4.out.low 5 _ rfl
               have y0 := cells_1 HZ4.out
               have yf := free_1 HZ4.out)
            | fail)
          all_goals
            go_wp2_with fail
            go_meet
            case rel =>
              first
                | exact ⟨wr.heap.size, tb4, q4, dv4, a4, c4, _, rfl, rfl, rfl, same_blk HZ4.out rfl, (fun e => ev e.symm), HS4.out.set HZ4.out (by omega), hq4, other_blk HV4.out ev⟩
                | exact ⟨w4.heap.size, tb4, q4, dv4, a4, c4, _, rfl, rfl, rfl, heap_alloc_new _ _, (fun e => by have := hw4; omega), HS4.out.below ((Below.refl _ _).alloc (Nat.le_refl _) _), hq4, heap_alloc_old HV4.out⟩
        case rest =>
          obtain ⟨yb, tb2, q2, dv2, a2, c2, v2, rfl, rfl, rfl, HY, hyv, HSc, hq2, HVc⟩ := hcut
          clear v0 k0 k1 k2 k3 k4 k5 HPL eb ev hwl
          have y0 := cells_1 HY.out
          have v0 := cells_1 HVc.out
          have vf := free_1 HVc.out
          obtain ⟨TN2, hTN2⟩ : ∃ y, T2.length = y := ⟨_, rfl⟩
          have HTN2 : Hid (T2.length = TN2) := hTN2
          rw [hTN2] at y0
          clear hTN2
          go_wp2_with fail
          go_roundw
          case rel => exact ⟨p + 1, tb2, q2, dv2, a2, c2, T2, rfl, by go_num, by omega, by omega, by omega, HSc.out.set HVc.out HVW.out, by show _ = _; rw [HTN2.out]; exact same_blk HVc.out rfl⟩
          case measure => simp [intOf]; omega
      · go_wp2_with fail
        refine (knownT_any wr (HG.out.below HBr.out)).mono ?_
        rintro e w9 ⟨rfl, hb9⟩
        have HB9 : Hid (Below W.heap.size W w9) := trans2 HBr.out hb9
        clear hb9
        go_wp2_with fail
        go_ret
        exact ⟨rfl, HB9.out⟩
    · have hge : ¬ (p : Int) < (N : Int) := by omega
      go_wp2_with fail
      refine (knownT_any wr (HG.out.below HBr.out)).mono ?_
      rintro e w9 ⟨rfl, hb9⟩
      have HB9 : Hid (Below W.heap.size W w9) := trans2 HBr.out hb9
      clear hb9
      go_wp2_with fail
      go_ret
      exact ⟨rfl, HB9.out⟩
end Go.Proofs.YthelfbdkbldhjaaGreatDoor
namespace Go.Proofs.YthelfbdkbldhjaaGreatDoor
open Go.RowKit Go.Maps Go.WideShapes
set_option linter.unusedVariables false
theorem TreeNodes_walk (W : World) (a : Option Addr) (c : Nat) (l : List StT) (hl : l.length ≤ maxLen) (hs : Steps W a l) (hol : ∀ x ∈ l, x.os.length ≤ 2513169434846) (hg : GroundT W) (hgc : GroundC W) :
    Calls Tryz.prog 7 #[.slice a l.length c] W fun e w' => e = .returned (.bool true) ∧ Below W.heap.size W w' := by
  have HO : Hid (∀ k : Int, _) := fun k => only_any W a c l k hl hs hol hg hgc
  clear hl hs hol hg hgc
  go_enter Tryz.func7, Tryz.ntmps7
  go_wp2_with fail
  refine Calls.mono (HO.out 4) ?_
  rintro e w1 ⟨rfl, hb1⟩
  have HB1 : Hid (Below W.heap.size W w1) := hb1
  clear hb1
  go_wp2_with fail
  go_ret
  exact ⟨rfl, HB1.out⟩
end Go.Proofs.YthelfbdkbldhjaaGreatDoor
