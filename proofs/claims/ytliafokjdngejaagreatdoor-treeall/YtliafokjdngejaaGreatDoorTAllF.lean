import Derived.Test.YtliafokjdngejaaGreatDoorTScript
import Derived.Test.YtliafokjdngejaaGreatDoorTSit
import Derived.Test.YtliafokjdngejaaGreatDoorTLoadL
import Derived.Test.YtliafokjdngejaaGreatDoorTPlayed
import Derived.Deep.RegionHeld3
namespace Go.Proofs.YtliafokjdngejaaGreatDoor
open Go.RowKit Go.ChangeShapes Go.WideShapes Go.ChangeAt
set_option linter.unusedSimpArgs false

theorem ops_ofC {H : Type} {enc : TypeId × Value → H} {W : World} {n : Nat} {v : Value} {y : DataW H × List MemPlace} (h : DataW.trod enc Tryz.prog W 0 (fun _ => true) true n 44 [v] = some y) (hz : ∀ m ∈ y.1.weights Tryz.prog 44, m ≤ reachBytes) :
    ∃ a c os, v = .slice a os.length c ∧ OpsAt W W.heap.size a os ∧ (os.length ≤ 2513169434846 ∧ os.length ≤ c) ∧ ∀ o ∈ os, o.Ok := by
  rcases Go.Deep.open_slice Tryz.underlying44 h with ⟨hcs, _⟩ | ⟨x, len, cap, m, n', D, Pl, hcs, _, hl, hm, hmm, hxx, hx⟩
  · have hv : v = .slice none 0 0 := by simpa using hcs
    subst hv
    exact ⟨none, 0, [], rfl, fun i o hi => by simp at hi, ⟨Nat.zero_le _, Nat.zero_le _⟩, fun o ho => by cases ho⟩
  · have hv : v = .slice (some x) len cap := by simpa using hcs
    subst hv
    have hmc : m = cap := by simpa using hmm
    subst hmc
    have hw : len * 56 ≤ reachBytes := by
      refine Nat.le_trans ?_ (hz ((((List.range len).map D).length + ((List.range (m - len)).map fun j => D (len + j)).length) * Tryz.prog.bytesOf 33) (by rw [hxx]; simp [DataW.weights, Tryz.underlying44]))
      rw [bytesOp]
      simp
      omega
    have each : ∀ i, i < len → ∃ o : OpT, o.Ok ∧ ∀ j x', o.cells[j]? = some x' → W.cell? ((x.add (i * 5)).add j) = some x' := by
      intro i hi
      obtain ⟨cs', h1, h2⟩ := hx i (by omega)
      obtain ⟨o, rfl, hok⟩ := op_of h2
      rw [cellsOp] at h1
      obtain ⟨_, _, hc⟩ := World.cells?_some h1
      exact ⟨o, hok, fun j x' hj => by rw [hc j (by have := (List.getElem?_eq_some_iff.1 hj).1; simpa using this)]; exact hj⟩
    obtain ⟨l, hll, hls⟩ := list_of len each
    subst hll
    refine ⟨some x, m, l, rfl, fun i o hi => ?_, ?_, fun o ho => ?_⟩
    · have hi0 : 0 < l.length := by have := (List.getElem?_eq_some_iff.1 hi).1; omega
      have hc0 := (hls 0 l[0] (List.getElem?_eq_getElem hi0)).2 0 _ rfl
      obtain ⟨b, f, rfl, hb⟩ : ∃ b f, x = ⟨b, f, none⟩ ∧ b < W.heap.size := by
        obtain ⟨b, f, spot⟩ := x
        have hs : spot = none := by simpa [Addr.add] using World.cell?_spot hc0
        subst hs
        exact ⟨b, f, rfl, by have := World.block_lt_of_cell? _ _ hc0; simpa [Addr.add] using this⟩
      refine ⟨b, f, rfl, hb, fun j x' hj => ?_⟩
      have := (hls i o hi).2 j x' hj
      rw [addr_add', addr_add'] at this
      exact this
    · refine ⟨?_, hl⟩
      unfold reachBytes at hw
      omega
    · obtain ⟨i, hi⟩ := List.mem_iff_getElem?.1 ho
      exact (hls i o hi).1
theorem step_ofC {H : Type} {enc : TypeId × Value → H} {W : World} {n : Nat} {cs : List Value} {y : DataW H × List MemPlace} (h : DataW.trod enc Tryz.prog W 0 (fun _ => true) true n 46 cs = some y) (hz : ∀ m ∈ y.1.weights Tryz.prog 46, m ≤ reachBytes) :
    ∃ x : StT, cs = x.cells ∧ OpsAt W W.heap.size x.a x.os ∧ (∀ o ∈ x.os, o.Ok) ∧ x.os.length ≤ x.c := by
  obtain ⟨xs, m, _, hx, hl, hxl, hf⟩ := DataW.trod_struct Tryz.underlying46 h
  rw [cellsStep] at hl
  obtain ⟨c0, c1, c2, c3, c4, c5, rfl⟩ := list6 hl
  obtain ⟨x0, x1, x2, x3, x4, x5, rfl⟩ := list6 (l := xs) hxl
  obtain ⟨z0, q0, _⟩ := DataW.trod_int Tryz.underlying3 (hf 0 _ rfl)
  obtain ⟨z1, q1, _⟩ := DataW.trod_int Tryz.underlying3 (hf 1 _ rfl)
  obtain ⟨z2, q2, _⟩ := DataW.trod_int Tryz.underlying3 (hf 2 _ rfl)
  have g3 : DataW.trod enc Tryz.prog W 0 (fun _ => true) true m 44 (([c0, c1, c2, c3, c4, c5].drop 3).take (Tryz.prog.cellsOf 44)) = [x0, x1, x2, x3, x4, x5][3]? := hf 3 _ rfl
  rw [cellsOps] at g3
  have g3' : DataW.trod enc Tryz.prog W 0 (fun _ => true) true m 44 [c3] = some x3 := g3
  clear g3
  obtain ⟨z4, q4, _⟩ := DataW.trod_string Tryz.underlying9 (hf 4 _ rfl)
  obtain ⟨z5, q5, _⟩ := DataW.trod_int Tryz.underlying3 (hf 5 _ rfl)
  simp [cells3', cells9'] at q0 q1 q2 q4 q5
  subst q0 q1 q2 q4 q5
  obtain ⟨a, c, os, rfl, ho, hcp, hol⟩ := ops_ofC g3' (fun k hk => hz k (by
    rw [hx]
    simp only [DataW.weights, Tryz.underlying46]
    exact DataW.weights_mem_each (j := 3) rfl rfl k hk))
  exact ⟨⟨z0, z1, z2, a, c, os, z4, z5⟩, rfl, ho, hol, hcp.2⟩
theorem steps_ofC {H : Type} {enc : TypeId × Value → H} {W : World} {a : Option Addr} {len cap : Nat} {d : DataW H} {p : List MemPlace}
    (h : DataW.Trod enc Tryz.prog W 0 (fun _ => true) true 43 (.slice a len cap) d p) (hz : ∀ m ∈ d.weights Tryz.prog 43, m ≤ reachBytes) :
    ∃ l : List StT, len = l.length ∧ (Steps W a l ∧ ∀ x ∈ l, x.os.length ≤ x.c) ∧ l.length ≤ maxLen := by
  obtain ⟨fuel, hf⟩ := h
  rcases Go.Deep.open_slice Tryz.underlying43 hf with ⟨hcs, _⟩ | ⟨x, len', cap', m, n', D, Pl, hcs, _, hl, hm, hmm, hxx, hx⟩
  · simp [Value.cells] at hcs
    obtain ⟨rfl, rfl, rfl⟩ := hcs
    exact ⟨[], rfl, ⟨fun i o hi => by simp at hi, fun x hx => by cases hx⟩, Nat.zero_le _⟩
  · simp [Value.cells] at hcs
    obtain ⟨rfl, rfl, rfl⟩ := hcs
    have hmc : m = cap := by simpa using hmm
    subst hmc
    simp only [Prod.mk.injEq] at hxx
    have each : ∀ i, i < len → ∃ s : StT, OpsAt W W.heap.size s.a s.os ∧ ((∀ o ∈ s.os, o.Ok) ∧ s.os.length ≤ s.c) ∧ ∀ j x', s.cells[j]? = some x' → W.cell? ((x.add (i * 6)).add j) = some x' := by
      intro i hi
      obtain ⟨cs', h1, h2⟩ := hx i (by omega)
      obtain ⟨s, rfl, ho, hol⟩ := step_ofC h2 (fun k hk => hz k (by
        rw [hxx.1]
        simp only [DataW.weights, Tryz.underlying43, List.mem_cons, List.mem_append]
        exact .inr (.inl (weights_all (List.mem_map.2 ⟨i, List.mem_range.2 hi, rfl⟩) hk))))
      rw [cellsStep] at h1
      obtain ⟨_, _, hc⟩ := World.cells?_some h1
      exact ⟨s, ho, hol, fun j x' hj => by rw [hc j (by have := (List.getElem?_eq_some_iff.1 hj).1; simpa using this)]; exact hj⟩
    obtain ⟨l, hll, hls⟩ := list_of len each
    subst hll
    refine ⟨l, rfl, ⟨fun i s hi => ?_, fun s hs => ?_⟩, Nat.le_trans hl hm⟩
    rotate_left
    · obtain ⟨i, hi⟩ := List.mem_iff_getElem?.1 hs
      exact (hls i s hi).2.1.2
    obtain ⟨ho, hol, hc⟩ := hls i s hi
    have hi0 : 0 < l.length := by have := (List.getElem?_eq_some_iff.1 hi).1; omega
    have hc0 := (hls 0 l[0] (List.getElem?_eq_getElem hi0)).2.2 0 _ rfl
    obtain ⟨b, f, rfl, hb⟩ : ∃ b f, x = ⟨b, f, none⟩ ∧ b < W.heap.size := by
      obtain ⟨b, f, spot⟩ := x
      have hs : spot = none := by simpa [Addr.add] using World.cell?_spot hc0
      subst hs
      exact ⟨b, f, rfl, by have := World.block_lt_of_cell? _ _ hc0; simpa [Addr.add] using this⟩
    refine ⟨b, f, rfl, hb, fun j x' hj => ?_, ho, hol.1⟩
    have := hc j x' hj
    rw [addr_add', addr_add'] at this
    exact this
end Go.Proofs.YtliafokjdngejaaGreatDoor
namespace Go.Proofs.YtliafokjdngejaaGreatDoor
open Go.RowKit Go.Maps Go.WideShapes
set_option linter.unusedVariables false
set_option linter.unusedSimpArgs false

theorem playL_says (T0 : List Nd) (s st : Int) : ∀ (os : List OpT) (i : Nat) (T : List Nd) (R : List ResT) (C : List ChT),
    ((playL T0 s st os i T R C).code = 0 ∧ (playL T0 s st os i T R C).at' = 0 ∧ (playL T0 s st os i T R C).R.length = R.length + os.length) ∨
    ((playL T0 s st os i T R C).code ≠ 0 ∧ (playL T0 s st os i T R C).T = T0 ∧ (playL T0 s st os i T R C).R = [] ∧ (playL T0 s st os i T R C).C = [] ∧ ∃ j, j < os.length ∧ (playL T0 s st os i T R C).at' = i + j ∧ (playL T0 s st (os.take j) i T R C).code = 0 ∧ (playL T0 s st (os.take j) i T R C).R.length = R.length + j)
  | [], i, T, R, C => .inl ⟨rfl, rfl, rfl⟩
  | o :: r, i, T, R, C => by
    by_cases h : (oneM T s st o).1 = 0
    · have e : playL T0 s st (o :: r) i T R C = playL T0 s st r (i + 1) (oneM T s st o).2.1 (R ++ [(oneM T s st o).2.2.1]) (C ++ (oneM T s st o).2.2.2) := by
        rw [playL, if_neg (by simpa using h)]
      rw [e]
      rcases playL_says T0 s st r (i + 1) (oneM T s st o).2.1 (R ++ [(oneM T s st o).2.2.1]) (C ++ (oneM T s st o).2.2.2) with ⟨h1, h2, h3⟩ | ⟨h1, h2, h3, h4, j, h5, h6, h7, h8⟩
      · exact .inl ⟨h1, h2, by rw [h3]; simp; omega⟩
      · refine .inr ⟨h1, h2, h3, h4, j + 1, by simpa using h5, by rw [h6]; omega, ?_, ?_⟩
        · rw [List.take_succ_cons, playL, if_neg (by simpa using h)]
          exact h7
        · rw [List.take_succ_cons, playL, if_neg (by simpa using h), h8]
          simp
          omega
    · have e : playL T0 s st (o :: r) i T R C = ⟨(oneM T s st o).1, i, T0, [], []⟩ := by
        rw [playL, if_pos h]
      rw [e]
      exact .inr ⟨h, rfl, rfl, rfl, 0, by simp, rfl, rfl, rfl⟩
theorem play_says (T : List Nd) (s st : Int) (os : List OpT) :
    ((playM T s st os).code = 0 ∧ (playM T s st os).at' = 0 ∧ (playM T s st os).R.length = os.length) ∨
    ((playM T s st os).code ≠ 0 ∧ (playM T s st os).T = T ∧ (playM T s st os).R = [] ∧ (playM T s st os).C = [] ∧ ((playM T s st os).at' = 0 ∨ (0 < (playM T s st os).at' ∧ (playM T s st os).at' < os.length ∧ (playM T s st (os.take (playM T s st os).at')).code = 0 ∧ (playM T s st (os.take (playM T s st os).at')).R.length = (playM T s st os).at'))) := by
  by_cases hm : mayC s st os.length = 0
  · have e : playM T s st os = playL T s st os 0 T [] [] := by rw [playM, if_neg (by simpa using hm)]
    rw [e]
    rcases playL_says T s st os 0 T [] [] with ⟨h1, h2, h3⟩ | ⟨h1, h2, h3, h4, j, h5, h6, h7, h8⟩
    · exact .inl ⟨h1, h2, by simpa using h3⟩
    · refine .inr ⟨h1, h2, h3, h4, ?_⟩
      rw [h6, Nat.zero_add]
      by_cases hj : j = 0
      · exact .inl hj
      · refine .inr ⟨by omega, h5, ?_⟩
        have hm2 : mayC s st (os.take j).length = 0 := by
          rw [List.length_take, Nat.min_eq_left (by omega)]
          unfold mayC at hm ⊢
          split at hm
          · cases hm
          rename_i h9
          split at hm
          · cases hm
          rename_i h10
          rw [if_neg (by omega), if_neg h10, if_neg (by omega)]
        have e2 : playM T s st (os.take j) = playL T s st (os.take j) 0 T [] [] := by rw [playM, if_neg (by simpa using hm2)]
        rw [e2]
        exact ⟨h7, by simpa using h8⟩
  · have e : playM T s st os = ⟨mayC s st os.length, 0, T, [], []⟩ := by rw [playM, if_pos hm]
    rw [e]
    exact .inr ⟨hm, rfl, rfl, rfl, .inl rfl⟩
theorem OpsAt.take {w : World} {B : Nat} {a : Option Addr} {os : List OpT} (h : OpsAt w B a os) (n : Nat) : OpsAt w B a (os.take n) := fun i o hi => by
  rw [List.getElem?_take] at hi
  split at hi
  · exact h i o hi
  · cases hi
end Go.Proofs.YtliafokjdngejaaGreatDoor
namespace Go.Proofs.YtliafokjdngejaaGreatDoor
open Go.RowKit Go.Maps Go.WideShapes
set_option linter.unusedVariables false
set_option linter.unusedSimpArgs false
attribute [local go_sem ↓] Go.wp_at_zero Go.wp_at_succ

set_option maxHeartbeats 8000000 in
set_option maxRecDepth 100000 in
theorem refused_any (B1 B2 g1 c1 g2 c2 : Nat) (T : List Nd) (x : StT) (j : Nat) (cd : Int) (ra ca : Option Addr) (rc cc : Nat) (w : World) (hg : GroundT w) (hgc : GroundC w) (hS : Snd T) (hR : Rng T) (h1 : w.ownsRow B1 54 7 (.slice (some ⟨g1, 0, none⟩) T.length c1) T.length (T.flatMap Nd.cs)) (h2 : w.ownsRow B2 54 7 (.slice (some ⟨g2, 0, none⟩) T.length c2) T.length (T.flatMap Nd.cs)) (ho : OpsAt w w.heap.size x.a x.os) (hok : ∀ o ∈ x.os, o.Ok) (hcap : x.os.length ≤ x.c)
    (hj : j = 0 ∨ (0 < j ∧ j < x.os.length ∧ (playM T x.s x.st (x.os.take j)).code = 0 ∧ (playM T x.s x.st (x.os.take j)).R.length = j)) :
    Calls Tryz.prog 19 #[.slice (some ⟨g1, 0, none⟩) T.length c1, .slice (some ⟨g2, 0, none⟩) T.length c2, .agg #[.int .i64 x.k, .int .i64 x.s, .int .i64 x.st, .slice x.a x.os.length x.c, .string x.pl, .int .i64 x.nn], .agg #[.int .i64 x.st, .int .i64 cd, .int .i64 j, .slice ra 0 rc], .slice ca 0 cc] w fun e w' => e = .returned (.bool true) ∧ Below w.heap.size w w' := by
  have HSM : Hid (∀ W, Below w.heap.size w W → Calls Tryz.prog 23 #[.slice (some ⟨g1, 0, none⟩) T.length c1, .slice (some ⟨g2, 0, none⟩) T.length c2] W fun e w' => e = .returned (.bool true) ∧ Below W.heap.size W w') := fun W hb => sameT_any B1 B2 g1 c1 g2 c2 T W (owns_chg h1 (Chg.of_below hb (fun _ => False)) (fun _ _ => id)) (owns_chg h2 (Chg.of_below hb (fun _ => False)) (fun _ _ => id)) (by have := hS.inv.len; omega)
  have HLD : Hid (∀ W, Below w.heap.size w W → Calls Tryz.prog 41 #[.slice (some ⟨g1, 0, none⟩) T.length c1] W fun e w' => ∃ ub, e = .returned (.tuple #[.pointer (some ⟨ub, 0, none⟩), .int .i64 0]) ∧ TrAt w' W.heap.size ub 8 T ∧ Below W.heap.size W w') := fun W hb => load_any B1 g1 c1 T W hS hR (owns_chg h1 (Chg.of_below hb (fun _ => False)) (fun _ _ => id)) (hg.below hb)
  have HPL : Hid (∀ (W : World) (B ub : Nat), Below w.heap.size w W → TrAt W B ub 8 T → Calls Tryz.prog 10 #[.pointer (some ⟨ub, 0, none⟩), .int .i64 x.s, .int .i64 x.st, .slice x.a (x.os.take j).length x.c] W fun e w' => ∃ L rv chV, e = .returned (.tuple #[.agg #[.int .i64 x.st, .int .i64 (playM T x.s x.st (x.os.take j)).code, .int .i64 (playM T x.s x.st (x.os.take j)).at', rv], chV]) ∧ L.map RsT.r = (playM T x.s x.st (x.os.take j)).R ∧ RsAt w' W.heap.size rv L.length L ∧ w'.ownsRow W.heap.size 56 4 chV (playM T x.s x.st (x.os.take j)).C.length (chCs (playM T x.s x.st (x.os.take j)).C) ∧ TrAt w' B ub (8 + 1) (playM T x.s x.st (x.os.take j)).T ∧ Chg W w' (fun k => k = ub)) := fun W B ub hb ht => play_tr B ub 8 T x.s x.st x.a x.c (x.os.take j) W (hg.below hb) (hgc.below hb) ht (by omega) (opsAt_mono ((ho.take j).below hb) hb.size) (fun o h => hok o (List.mem_of_mem_take h))
  obtain ⟨N, hN⟩ : ∃ N, T.length = N := ⟨_, rfl⟩
  rw [hN] at HSM HLD ⊢
  obtain ⟨ON, hON⟩ : ∃ N, x.os.length = N := ⟨_, rfl⟩
  have HON : Hid (x.os.length = ON) := hON
  rw [hON] at hj hcap ⊢
  clear h1 h2 hN hg hgc hS hR ho hok hON
  go_enter Tryz.func19, Tryz.ntmps19
  go_upto_region 1 with fail
  obtain ⟨w2, hw2⟩ : ∃ y, (w.alloc (.cells #[.int .i64 x.k, .int .i64 x.s, .int .i64 x.st, .slice x.a ON x.c, .string x.pl, .int .i64 x.nn] 46)).alloc (.cells #[.int .i64 x.st, .int .i64 cd, .int .i64 j, .slice ra 0 rc] 28) = y := ⟨_, rfl⟩
  obtain ⟨sb, hsb⟩ : ∃ y, w.heap.size = y := ⟨_, rfl⟩
  have HB2 : Hid (Below w.heap.size w w2) := by rw [← hw2]; exact ((Below.refl _ _).alloc (Nat.le_refl _) _).alloc (by simp) _
  have HS2 : Hid (w2.heap[sb]? = some (.cells #[.int .i64 x.k, .int .i64 x.s, .int .i64 x.st, .slice x.a ON x.c, .string x.pl, .int .i64 x.nn] 46 (0, 0))) := by rw [← hw2, ← hsb]; exact heap_alloc2_old _ _ _
  have HR2 : Hid (w2.heap[sb + 1]? = some (.cells #[.int .i64 x.st, .int .i64 cd, .int .i64 j, .slice ra 0 rc] 28 (0, 0))) := by rw [← hw2, ← hsb]; exact heap_alloc2_new _ _ _
  rw [hw2, hsb]
  clear hw2 hsb
  go_wp2_with fail
  refine Calls.mono (HSM.out w2 HB2.out) ?_
  rintro e w3 ⟨rfl, hb3⟩
  have HB3 : Hid (Below w.heap.size w w3) := trans2 HB2.out hb3
  have HS3 : Hid _ := kept_block hb3 HS2.out
  have HR3 : Hid _ := kept_block hb3 HR2.out
  clear hb3
  obtain ⟨s0, s1, s2, s3, s4, s5⟩ := cells_6 HS3.out
  obtain ⟨r0, r1, r2, r3⟩ := cells_4 HR3.out
  rcases hj with rfl | ⟨hj0, hjl, hjc, hjr⟩
  · go_wp2_with fail
    go_ret
    exact ⟨rfl, HB3.out⟩
  · have hj0' : (0 : Int) < (j : Int) := by omega
    have hj1 : ¬ (j : Int) < 0 := by omega
    have hj2 : ¬ (ON : Int) ≤ (j : Int) := by omega
    have hj3 : ((j : Int) == 0) = false := by simp; omega
    have hjc0 : j ≤ x.c := by omega
    have HJC : Hid _ := hjc
    have HJR : Hid _ := hjr
    have HTL : Hid ((x.os.take j).length = j) := by show _ = _; rw [List.length_take, HON.out]; omega
    clear hjc hjr
    go_wp2_with fail
    refine Calls.mono (HLD.out w3 HB3.out) ?_
    rintro e w4 ⟨ub, rfl, ht4, hb4⟩
    have HT4 : Hid (TrAt w4 w3.heap.size ub 8 T) := ht4
    have HB4 : Hid (Below w.heap.size w w4) := trans2 HB3.out hb4
    have HS4 : Hid _ := kept_block hb4 HS3.out
    have HR4 : Hid _ := kept_block hb4 HR3.out
    clear ht4 hb4 s0 s1 s2 s3 s4 s5 r0 r1 r2 r3
    obtain ⟨s0, s1, s2, s3, s4, s5⟩ := cells_6 HS4.out
    obtain ⟨r0, r1, r2, r3⟩ := cells_4 HR4.out
    have HPL4 : Hid _ := fun W hb ht => HPL.out W w3.heap.size ub hb ht
    rw [HTL.out, HJC.out] at HPL4
    have HUB : Hid (w.heap.size ≤ ub) := Nat.le_trans HB3.out.size HT4.out.lo
    have HUL : Hid (∀ b, b < w3.heap.size → b ≠ ub) := fun b hb e => by have := HT4.out.lo; omega
    have hsl3 : sb + 1 < w3.heap.size := (Array.getElem?_eq_some_iff.1 HR3.out).1
    go_upto_region 8 with (first | (go_at_call 12; refine Calls.mono (numT_any _ _) ?_; rintro e w' ⟨rfl, hw'⟩; have hw9 := hw'.symm; subst hw9; clear hw') | fail)
    have hsl4 : sb + 1 < w4.heap.size := (Array.getElem?_eq_some_iff.1 HR4.out).1
    have eb : sb ≠ w4.heap.size := by omega
    have ev : sb + 1 ≠ w4.heap.size := by omega
    go_cut [13] from 64 to 76 (fun p13 wc => ∃ rb ra2 rc2, p13 = .pointer (some ⟨rb, 0, none⟩) ∧ Hid (wc.heap[rb]? = some (.cells #[.int .i64 x.st, .int .i64 0, .int .i64 (playM T x.s x.st (x.os.take j)).at', .slice ra2 j rc2] 28 (0, 0))) ∧ Hid (wc.heap[sb + 1]? = some (.cells #[.int .i64 x.st, .int .i64 cd, .int .i64 j, .slice ra 0 rc] 28 (0, 0))) ∧ Hid (Below w.heap.size w wc))
    case first =>
      go_region_held3 (fun w' => w'.cell? ⟨sb, 1, none⟩ = some (.int .i64 x.s) ∧ w'.cell? ⟨sb, 2, none⟩ = some (.int .i64 x.st) ∧ w'.cell? ⟨sb, 3, none⟩ = some (.slice x.a ON x.c) ∧ w'.cell? ⟨sb + 1, 2, none⟩ = some (.int .i64 j)) (first | go_keep | exact ⟨s1, s2, s3, r2⟩ | (simp only [cellN eb, cellN ev, s1, s2, s3, r2, and_self]))
        (first
          | (go_at_call 10; refine Calls.mono (HPL4.out _ (below_drew HB4.out) (HT4.out.below (below_drew0 _))) ?_
             rintro e w5 ⟨L, rv, chV, rfl, hL, hRs, _, _, hc5⟩
             have hc5' := chg_undrew hc5
             have hLj : L.length = j := by have h9 := congrArg List.length hL; rw [List.length_map, HJR.out] at h9; exact h9
             obtain ⟨ra2, rc2, rfl⟩ := slice_of hRs.row
             rw [hLj]
             have HS5 : Hid (w5.heap[sb]? = some (.cells #[.int .i64 x.k, .int .i64 x.s, .int .i64 x.st, .slice x.a ON x.c, .string x.pl, .int .i64 x.nn] 46 (0, 0))) := kept_chg hc5' HS4.out (HUL.out sb (by omega))
             have HR5 : Hid (w5.heap[sb + 1]? = some (.cells #[.int .i64 x.st, .int .i64 cd, .int .i64 j, .slice ra 0 rc] 28 (0, 0))) := kept_chg hc5' HR4.out (HUL.out (sb + 1) hsl3)
             have HB5 : Hid (Below w.heap.size w w5) := HB4.out.trans (chg_lo hc5' HUB.out HB4.out.size)
             clear hL hRs hc5 hc5' hLj s0 s1 s2 s3 s4 s5 r0 r1 r2 r3
             obtain ⟨s0, s1, s2, s3, s4, s5⟩ := cells_6 HS5.out
             obtain ⟨r0, r1, r2, r3⟩ := cells_4 HR5.out)
          | (go_at_call 10; refine Calls.mono (HPL4.out _ (below_drew (HB4.out.alloc HB4.out.size _)) (HT4.out.below (below_drew ((Below.refl _ _).alloc (Nat.le_refl _) _)))) ?_
             rintro e w5 ⟨L, rv, chV, rfl, hL, hRs, _, _, hc5⟩
             have hc5' := chg_undrew hc5
             have hLj : L.length = j := by have h9 := congrArg List.length hL; rw [List.length_map, HJR.out] at h9; exact h9
             obtain ⟨ra2, rc2, rfl⟩ := slice_of hRs.row
             rw [hLj]
             have HS5 : Hid (w5.heap[sb]? = some (.cells #[.int .i64 x.k, .int .i64 x.s, .int .i64 x.st, .slice x.a ON x.c, .string x.pl, .int .i64 x.nn] 46 (0, 0))) := kept_chg hc5' (heap_alloc_old HS4.out) (HUL.out sb (by omega))
             have HR5 : Hid (w5.heap[sb + 1]? = some (.cells #[.int .i64 x.st, .int .i64 cd, .int .i64 j, .slice ra 0 rc] 28 (0, 0))) := kept_chg hc5' (heap_alloc_old HR4.out) (HUL.out (sb + 1) hsl3)
             have HB5 : Hid (Below w.heap.size w w5) := (HB4.out.alloc HB4.out.size (.cells #[.int .i64 0, .int .i64 0, .int .i64 0, .slice none 0 0] 28)).trans (chg_lo hc5' HUB.out (HB4.out.alloc HB4.out.size (.cells #[.int .i64 0, .int .i64 0, .int .i64 0, .slice none 0 0] 28)).size)
             have HX5 : Hid (w5.heap[w4.heap.size]? = some (.cells #[.int .i64 0, .int .i64 0, .int .i64 0, .slice none 0 0] 28 (0, 0))) := kept_chg hc5' (heap_alloc_new _ _) (fun e => by have := HT4.out.lt; omega)
             obtain ⟨y0, y1, y2, y3⟩ := cells_4 HX5.out
             have yf := free_4 HX5.out
             clear hL hRs hc5 hc5' hLj s0 s1 s2 s3 s4 s5 r0 r1 r2 r3
             obtain ⟨s0, s1, s2, s3, s4, s5⟩ := cells_6 HS5.out
             obtain ⟨r0, r1, r2, r3⟩ := cells_4 HR5.out)
          | fail)
      all_goals
        go_wp2_with fail
        go_meet
        case rel =>
          first
            | exact ⟨w5.heap.size, ra2, rc2, rfl, heap_alloc_new _ _, new_old HR5.out _, HB5.out.alloc HB5.out.size _⟩
            | exact ⟨w4.heap.size, ra2, rc2, rfl, fill_4 HX5.out, fillO_4 HR5.out (by omega), fillB_4 HB5.out HB4.out.size⟩
    case rest =>
      obtain ⟨rb, ra2, rc2, rfl, HX, HRc, HBc⟩ := hcut
      clear s0 s1 s2 s3 s4 s5 r0 r1 r2 r3
      obtain ⟨r0, r1, r2, r3⟩ := cells_4 HRc.out
      obtain ⟨q0, q1, q2, q3⟩ := cells_4 HX.out
      go_wp2_with (first | (go_at_call 12; refine Calls.mono (numT_any _ _) ?_; rintro e w' ⟨rfl, hw'⟩; have hw9 := hw'.symm; subst hw9; clear hw') | fail)
      go_ret
      exact ⟨rfl, HBc.out⟩
end Go.Proofs.YtliafokjdngejaaGreatDoor
