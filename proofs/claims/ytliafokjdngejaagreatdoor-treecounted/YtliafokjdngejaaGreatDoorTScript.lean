import Derived.Test.YtliafokjdngejaaGreatDoorLaid
import Derived.Test.YtliafokjdngejaaGreatDoorTBase
import Derived.ProofKit
import Derived.ChangeSlices
import Derived.OpenShut
import Derived.ChangeOld
import Derived.SizedLaws
import Derived.Deep.Slices
import Derived.Deep.Strs
import Derived.Test.YtliafokjdngejaaGreatDoorTPlayO
namespace Go.Proofs.YtliafokjdngejaaGreatDoor
open Go.RowKit Go.ChangeShapes Go.WideShapes Go.ChangeAt

theorem list5 {α : Type} {l : List α} (h : l.length = 5) : ∃ a b c d e, l = [a, b, c, d, e] := by
  match l, h with
  | [a, b, c, d, e], _ => exact ⟨a, b, c, d, e, rfl⟩
theorem list6 {α : Type} {l : List α} (h : l.length = 6) : ∃ a b c d e f, l = [a, b, c, d, e, f] := by
  match l, h with
  | [a, b, c, d, e, f], _ => exact ⟨a, b, c, d, e, f, rfl⟩
theorem cellsNeed : Tryz.prog.cellsOf 108 = 6 := by kernel_rfl
theorem cellsNeeds : Tryz.prog.cellsOf 109 = 48 := by kernel_rfl
theorem gNeeds : Tryz.prog.globalNamed "herald/tree.needs" = some 0 := by kernel_rfl
theorem gNeedsType : (Tryz.prog.globals[0]?).map (·.type) = some 109 := by kernel_rfl
theorem datumNeeds : (Rows.laid_herald_tree_needs : DataW Unit) = .agg (needsTab.map fun r => .agg (r.map fun z => .lit (.bool z))) := by kernel_rfl
theorem cells4' : Tryz.prog.cellsOf 4 = 1 := by kernel_rfl
theorem cells3' : Tryz.prog.cellsOf 3 = 1 := by kernel_rfl
theorem cells9' : Tryz.prog.cellsOf 9 = 1 := by kernel_rfl
theorem cellsOps : Tryz.prog.cellsOf 44 = 1 := by kernel_rfl

theorem need_row {H : Type} {enc : TypeId × Value → H} {w : World} {base : Nat} {sp : Nat → Bool} {held : Bool} {fuel : Nat} {cs : List Value} {r : List Bool} {p : List MemPlace} (hr : r.length = 6)
    (h : DataW.trod enc Tryz.prog w base sp held fuel 108 cs = some (.agg (r.map fun z => .lit (.bool z)), p)) : cs = r.map Value.bool := by
  obtain ⟨xs, n, _, hx, hl, hxl, hf⟩ := DataW.trod_struct Tryz.underlying108 h
  rw [cellsNeed] at hl
  obtain ⟨c0, c1, c2, c3, c4, c5, rfl⟩ := list6 hl
  obtain ⟨b0, b1, b2, b3, b4, b5, rfl⟩ := list6 hr
  obtain ⟨x0, x1, x2, x3, x4, x5, rfl⟩ := list6 (l := xs) hxl
  simp only [List.map_cons, List.map_nil, Prod.mk.injEq, DataW.agg.injEq, List.cons.injEq, and_true] at hx
  obtain ⟨⟨e0, e1, e2, e3, e4, e5⟩, _⟩ := hx
  have g0 := hf 0 _ rfl
  have g1 := hf 1 _ rfl
  have g2 := hf 2 _ rfl
  have g3 := hf 3 _ rfl
  have g4 := hf 4 _ rfl
  have g5 := hf 5 _ rfl
  obtain ⟨z0, q0, k0⟩ := DataW.trod_bool Tryz.underlying4 g0
  obtain ⟨z1, q1, k1⟩ := DataW.trod_bool Tryz.underlying4 g1
  obtain ⟨z2, q2, k2⟩ := DataW.trod_bool Tryz.underlying4 g2
  obtain ⟨z3, q3, k3⟩ := DataW.trod_bool Tryz.underlying4 g3
  obtain ⟨z4, q4, k4⟩ := DataW.trod_bool Tryz.underlying4 g4
  obtain ⟨z5, q5, k5⟩ := DataW.trod_bool Tryz.underlying4 g5
  simp [cells4'] at q0 q1 q2 q3 q4 q5
  subst q0 q1 q2 q3 q4 q5 k0 k1 k2 k3 k4 k5
  simp only [DataW.lit.injEq, Lit.bool.injEq] at e0 e1 e2 e3 e4 e5
  subst e0 e1 e2 e3 e4 e5
  rfl
theorem needs_flat : ∀ k, k < 48 → (needsTab.flatten)[k]? = (needsTab[k / 6]?).bind (·[k % 6]?) := by decide
theorem needs_six : ∀ r ∈ needsTab, r.length = 6 := by decide
theorem needs_cells {H : Type} {enc : TypeId × Value → H} {w : World} {base : Nat} {sp : Nat → Bool} {held : Bool} {fuel : Nat} {cs : List Value} {p : List MemPlace}
    (h : DataW.trod enc Tryz.prog w base sp held fuel 109 cs = some (.agg (needsTab.map fun r => .agg (r.map fun z => .lit (.bool z))), p)) : ∀ (k : Nat) (b : Bool), (needsTab.flatten)[k]? = some b → cs[k]? = some (Value.bool b) := by
  intro k b hk
  have hk48 : k < 48 := (List.getElem?_eq_some_iff.1 hk).1
  rw [needs_flat k hk48] at hk
  obtain ⟨r, hr, hb⟩ := Option.bind_eq_some_iff.1 hk
  cases fuel with
  | zero => simp [DataW.trod] at h
  | succ fuel =>
    simp only [DataW.trod, Tryz.underlying109, cellsNeed, cellsNeeds] at h
    split at h
    · rename_i hl
      obtain ⟨xs, hm, hx⟩ := Option.map_eq_some_iff.1 h
      have hxs : xs.map (·.1) = needsTab.map fun r => (DataW.agg (r.map fun z => .lit (.bool z)) : DataW H) := by
        have := congrArg Prod.fst hx
        simpa using this
      obtain ⟨y, hy, hf⟩ := Lib.mapM_at hm (k / 6) (k / 6) (List.getElem?_range (by omega))
      have h2 : (xs.map (·.1))[k / 6]? = some y.1 := by simp [hy]
      rw [hxs, List.getElem?_map, hr] at h2
      obtain ⟨y1, y2⟩ := y
      simp only [Option.map_some, Option.some.injEq] at h2
      subst h2
      have hrow := need_row (needs_six r (List.mem_of_getElem? hr)) hf
      have := congrArg (·[k % 6]?) hrow
      simp only [List.getElem?_map, hb, Option.map_some, List.getElem?_take, List.getElem?_drop] at this
      rw [if_pos (by omega), show k / 6 * 6 + k % 6 = k by omega] at this
      exact this
    · cases h
theorem groundT_of {W : World} {l : List (String × DataW Unit)} (hf : (l.filter fun x => x.1 == "herald/place.nameBytes") = [("herald/place.nameBytes", Rows.laid_herald_place_nameBytes)])
    (hf2 : (l.filter fun x => x.1 == "herald/tree.needs") = [("herald/tree.needs", Rows.laid_herald_tree_needs)]) (hL : laidMetH Tryz.prog l W) (hS : W.ShapedOpen Tryz.prog) : GroundT W := by
  have h1 := hL.filter (fun x => x.1 == "herald/tree.needs")
  rw [hf2, Go.MakeChecks.laidMetH_plain _ _ _ (by kernel_rfl)] at h1
  obtain ⟨ps, ⟨g', t', cs, fuel, p, q, hg', ht', hvar, hd, _, _⟩, _⟩ := h1
  obtain rfl := Option.some.inj (gNeeds.symm.trans hg')
  obtain rfl := Option.some.inj (gNeedsType.symm.trans ht')
  rw [datumNeeds] at hd
  have hcs := needs_cells hd
  have hcell : ∀ (k : Nat) (b : Bool), (needsTab.flatten)[k]? = some b → W.cell? ⟨0, k, none⟩ = some (Value.bool b) := fun k b hk => by
    rw [World.var?_cell gNeeds hvar k, ← Array.getElem?_toList]
    exact hcs k b hk
  exact { ground_of hf hL hS with need := fun i j b hb => hcell _ b hb, needLt := World.block_lt_of_cell? _ _ (hcell 0 false rfl) }
end Go.Proofs.YtliafokjdngejaaGreatDoor
namespace Go.Proofs.YtliafokjdngejaaGreatDoor
open Go.RowKit Go.ChangeShapes Go.WideShapes Go.ChangeAt
set_option linter.unusedSimpArgs false

/-- A step of a script. -/
structure StT where
  k : Int
  s : Int
  st : Int
  a : Option Addr
  c : Nat
  os : List OpT
  pl : ByteArray
  nn : Int
abbrev StT.cells (x : StT) : List Value := [.int .i64 x.k, .int .i64 x.s, .int .i64 x.st, .slice x.a x.os.length x.c, .string x.pl, .int .i64 x.nn]
/-- A script that came in. -/
def Steps (W : World) (a : Option Addr) (l : List StT) : Prop :=
  ∀ i x, l[i]? = some x → ∃ b f, a = some ⟨b, f, none⟩ ∧ b < W.heap.size ∧ (∀ j v, x.cells[j]? = some v → W.cell? ⟨b, f + i * 6 + j, none⟩ = some v) ∧ OpsAt W W.heap.size x.a x.os ∧ (∀ o ∈ x.os, o.Ok)
theorem opsAt_mono {w : World} {B B' : Nat} {a : Option Addr} {os : List OpT} (h : OpsAt w B a os) (hB : B ≤ B') : OpsAt w B' a os := fun i o hi => by
  obtain ⟨b, f, h1, h2, h3⟩ := h i o hi
  exact ⟨b, f, h1, Nat.lt_of_lt_of_le h2 hB, h3⟩
theorem OpsAt.below {w w' : World} {base : Nat} {a : Option Addr} {os : List OpT} (h : OpsAt w base a os) (hb : Below base w w') : OpsAt w' base a os := by
  intro i o hi
  obtain ⟨b, f, h1, h2, h3⟩ := h i o hi
  exact ⟨b, f, h1, h2, fun j x hx => by rw [hb.cell (p := ⟨b, f + i * 5 + j, none⟩) h2]; exact h3 j x hx⟩
theorem list_of {α : Type} {P : Nat → α → Prop} : ∀ n, (∀ i, i < n → ∃ x, P i x) → ∃ l : List α, l.length = n ∧ ∀ (j : Nat) (x : α), l[j]? = some x → P j x
  | 0, _ => ⟨[], rfl, fun j x h => by simp at h⟩
  | n + 1, h => by
    obtain ⟨l, hl, hp⟩ := list_of n (fun i hi => h i (by omega))
    obtain ⟨x, hx⟩ := h n (by omega)
    refine ⟨l ++ [x], by simp [hl], fun j y hy => ?_⟩
    by_cases hj : j < l.length
    · rw [List.getElem?_append_left hj] at hy
      exact hp j y hy
    · rw [List.getElem?_append_right (by omega)] at hy
      have hj0 : j - l.length = 0 := by
        rcases Nat.eq_zero_or_pos (j - l.length) with g | g
        · exact g
        · rw [List.getElem?_eq_none (by simp; omega)] at hy
          cases hy
      rw [hj0] at hy
      have : j = n := by omega
      subst this
      have e : x = y := by simpa using hy
      subst e
      exact hx
theorem weights_all {H : Type} {P : Program} {e : TypeId} {d : DataW H} {n : Nat} : ∀ {l : List (DataW H)}, d ∈ l → n ∈ d.weights P e → n ∈ DataW.weightsAll P e l
  | x :: r, hd, hn => by
    simp only [DataW.weightsAll, List.mem_append]
    rcases List.mem_cons.1 hd with rfl | hd
    · exact .inl hn
    · exact .inr (weights_all hd hn)
theorem addr_add' (b o j : Nat) : (⟨b, o, none⟩ : Addr).add j = ⟨b, o + j, none⟩ := by unfold Addr.add; split <;> simp_all
theorem cellsOp : Tryz.prog.cellsOf 33 = 5 := by kernel_rfl
theorem cellsStep : Tryz.prog.cellsOf 46 = 6 := by kernel_rfl
theorem bytesOp : Tryz.prog.bytesOf 33 = 56 := by kernel_rfl
/-- Cells from an address on: the address is a plain one. -/
theorem plain_at {W : World} {x : Addr} {v : Value} (h : W.cell? x = some v) : ∃ b f, x = ⟨b, f, none⟩ ∧ b < W.heap.size := by
  obtain ⟨b, o, spot⟩ := x
  have hs : spot = none := by simpa using World.cell?_spot h
  subst hs
  exact ⟨b, o, rfl, World.block_lt_of_cell? _ _ h⟩
theorem op_of {H : Type} {enc : TypeId × Value → H} {W : World} {n : Nat} {cs : List Value} {y : DataW H × List MemPlace} (h : DataW.trod enc Tryz.prog W 0 (fun _ => true) true n 33 cs = some y) : ∃ o : OpT, cs = o.cells ∧ o.Ok := by
  obtain ⟨xs, m, _, hx, hl, hxl, hf⟩ := DataW.trod_struct Tryz.underlying33 h
  rw [cellsOp] at hl
  obtain ⟨c0, c1, c2, c3, c4, rfl⟩ := list5 hl
  obtain ⟨x0, x1, x2, x3, x4, rfl⟩ := list5 (l := xs) hxl
  obtain ⟨z0, q0, _⟩ := DataW.trod_int Tryz.underlying3 (hf 0 _ rfl)
  obtain ⟨z1, q1, _⟩ := DataW.trod_string Tryz.underlying9 (hf 1 _ rfl)
  obtain ⟨z2, q2, _⟩ := DataW.trod_string Tryz.underlying9 (hf 2 _ rfl)
  obtain ⟨z3, q3, _⟩ := DataW.trod_int Tryz.underlying3 (hf 3 _ rfl)
  obtain ⟨z4, q4, _, hw4⟩ := DataW.trod_int Tryz.underlying3 (hf 4 _ rfl)
  simp [cells3', cells9'] at q0 q1 q2 q3 q4
  subst q0 q1 q2 q3 q4
  exact ⟨⟨z0, z1, z2, z3, z4⟩, rfl, by simp only [Lit.wf, IntKind.min, IntKind.max, IntKind.signed, IntKind.bits, Bool.and_eq_true, decide_eq_true_eq, if_pos] at hw4; have := hw4.1; have := hw4.2; exact ⟨show -9223372036854775808 ≤ z4 by omega, show z4 < 9223372036854775808 by omega⟩⟩
theorem ops_of {H : Type} {enc : TypeId × Value → H} {W : World} {n : Nat} {v : Value} {y : DataW H × List MemPlace} (h : DataW.trod enc Tryz.prog W 0 (fun _ => true) true n 44 [v] = some y) (hz : ∀ m ∈ y.1.weights Tryz.prog 44, m ≤ reachBytes) :
    ∃ a c os, v = .slice a os.length c ∧ OpsAt W W.heap.size a os ∧ os.length ≤ 2513169434846 ∧ ∀ o ∈ os, o.Ok := by
  rcases Go.Deep.open_slice Tryz.underlying44 h with ⟨hcs, _⟩ | ⟨x, len, cap, m, n', D, Pl, hcs, _, hl, hm, hmm, hxx, hx⟩
  · have hv : v = .slice none 0 0 := by simpa using hcs
    subst hv
    exact ⟨none, 0, [], rfl, fun i o hi => by simp at hi, Nat.zero_le _, fun o ho => by cases ho⟩
  · have hv : v = .slice (some x) len cap := by simpa using hcs
    subst hv
    have hmc : m = cap := by simpa using hmm
    subst hmc
    have hw : len * 56 ≤ reachBytes := by
      refine Nat.le_trans ?_ (hz ((((List.range len).map D).length + ((List.range (m - len)).map fun j => D (len + j)).length) * Tryz.prog.bytesOf 33) (by rw [hxx]; simp [DataW.weights, Tryz.underlying44]))
      rw [bytesOp]
      simp
      omega
    have each : ∀ i, i < len → ∃ o : OpT, o.Ok ∧ ∀ j x', o.cells[j]? = some x' → W.cell? ((x.add (i * 5)).add j) = some x' := by
      intro i hi
      obtain ⟨cs', h1, h2⟩ := hx i (by omega)
      obtain ⟨o, rfl, hok⟩ := op_of h2
      rw [cellsOp] at h1
      obtain ⟨_, _, hc⟩ := World.cells?_some h1
      exact ⟨o, hok, fun j x' hj => by rw [hc j (by have := (List.getElem?_eq_some_iff.1 hj).1; simpa using this)]; exact hj⟩
    obtain ⟨l, hll, hls⟩ := list_of len each
    subst hll
    refine ⟨some x, m, l, rfl, fun i o hi => ?_, ?_, fun o ho => ?_⟩
    · have hi0 : 0 < l.length := by have := (List.getElem?_eq_some_iff.1 hi).1; omega
      have hc0 := (hls 0 l[0] (List.getElem?_eq_getElem hi0)).2 0 _ rfl
      obtain ⟨b, f, rfl, hb⟩ : ∃ b f, x = ⟨b, f, none⟩ ∧ b < W.heap.size := by
        obtain ⟨b, f, spot⟩ := x
        have hs : spot = none := by simpa [Addr.add] using World.cell?_spot hc0
        subst hs
        exact ⟨b, f, rfl, by have := World.block_lt_of_cell? _ _ hc0; simpa [Addr.add] using this⟩
      refine ⟨b, f, rfl, hb, fun j x' hj => ?_⟩
      have := (hls i o hi).2 j x' hj
      rw [addr_add', addr_add'] at this
      exact this
    · unfold reachBytes at hw
      omega
    · obtain ⟨i, hi⟩ := List.mem_iff_getElem?.1 ho
      exact (hls i o hi).1
theorem step_of {H : Type} {enc : TypeId × Value → H} {W : World} {n : Nat} {cs : List Value} {y : DataW H × List MemPlace} (h : DataW.trod enc Tryz.prog W 0 (fun _ => true) true n 46 cs = some y) (hz : ∀ m ∈ y.1.weights Tryz.prog 46, m ≤ reachBytes) :
    ∃ x : StT, cs = x.cells ∧ OpsAt W W.heap.size x.a x.os ∧ (∀ o ∈ x.os, o.Ok) := by
  obtain ⟨xs, m, _, hx, hl, hxl, hf⟩ := DataW.trod_struct Tryz.underlying46 h
  rw [cellsStep] at hl
  obtain ⟨c0, c1, c2, c3, c4, c5, rfl⟩ := list6 hl
  obtain ⟨x0, x1, x2, x3, x4, x5, rfl⟩ := list6 (l := xs) hxl
  obtain ⟨z0, q0, _⟩ := DataW.trod_int Tryz.underlying3 (hf 0 _ rfl)
  obtain ⟨z1, q1, _⟩ := DataW.trod_int Tryz.underlying3 (hf 1 _ rfl)
  obtain ⟨z2, q2, _⟩ := DataW.trod_int Tryz.underlying3 (hf 2 _ rfl)
  have g3 : DataW.trod enc Tryz.prog W 0 (fun _ => true) true m 44 (([c0, c1, c2, c3, c4, c5].drop 3).take (Tryz.prog.cellsOf 44)) = [x0, x1, x2, x3, x4, x5][3]? := hf 3 _ rfl
  rw [cellsOps] at g3
  have g3' : DataW.trod enc Tryz.prog W 0 (fun _ => true) true m 44 [c3] = some x3 := g3
  clear g3
  obtain ⟨z4, q4, _⟩ := DataW.trod_string Tryz.underlying9 (hf 4 _ rfl)
  obtain ⟨z5, q5, _⟩ := DataW.trod_int Tryz.underlying3 (hf 5 _ rfl)
  simp [cells3', cells9'] at q0 q1 q2 q4 q5
  subst q0 q1 q2 q4 q5
  obtain ⟨a, c, os, rfl, ho, _, hol⟩ := ops_of g3' (fun k hk => hz k (by
    rw [hx]
    simp only [DataW.weights, Tryz.underlying46]
    exact DataW.weights_mem_each (j := 3) rfl rfl k hk))
  exact ⟨⟨z0, z1, z2, a, c, os, z4, z5⟩, rfl, ho, hol⟩
theorem steps_of {H : Type} {enc : TypeId × Value → H} {W : World} {a : Option Addr} {len cap : Nat} {d : DataW H} {p : List MemPlace}
    (h : DataW.Trod enc Tryz.prog W 0 (fun _ => true) true 43 (.slice a len cap) d p) (hz : ∀ m ∈ d.weights Tryz.prog 43, m ≤ reachBytes) :
    ∃ l : List StT, len = l.length ∧ Steps W a l ∧ l.length ≤ maxLen := by
  obtain ⟨fuel, hf⟩ := h
  rcases Go.Deep.open_slice Tryz.underlying43 hf with ⟨hcs, _⟩ | ⟨x, len', cap', m, n', D, Pl, hcs, _, hl, hm, hmm, hxx, hx⟩
  · simp [Value.cells] at hcs
    obtain ⟨rfl, rfl, rfl⟩ := hcs
    exact ⟨[], rfl, fun i o hi => by simp at hi, Nat.zero_le _⟩
  · simp [Value.cells] at hcs
    obtain ⟨rfl, rfl, rfl⟩ := hcs
    have hmc : m = cap := by simpa using hmm
    subst hmc
    simp only [Prod.mk.injEq] at hxx
    have each : ∀ i, i < len → ∃ s : StT, OpsAt W W.heap.size s.a s.os ∧ (∀ o ∈ s.os, o.Ok) ∧ ∀ j x', s.cells[j]? = some x' → W.cell? ((x.add (i * 6)).add j) = some x' := by
      intro i hi
      obtain ⟨cs', h1, h2⟩ := hx i (by omega)
      obtain ⟨s, rfl, ho, hol⟩ := step_of h2 (fun k hk => hz k (by
        rw [hxx.1]
        simp only [DataW.weights, Tryz.underlying43, List.mem_cons, List.mem_append]
        exact .inr (.inl (weights_all (List.mem_map.2 ⟨i, List.mem_range.2 hi, rfl⟩) hk))))
      rw [cellsStep] at h1
      obtain ⟨_, _, hc⟩ := World.cells?_some h1
      exact ⟨s, ho, hol, fun j x' hj => by rw [hc j (by have := (List.getElem?_eq_some_iff.1 hj).1; simpa using this)]; exact hj⟩
    obtain ⟨l, hll, hls⟩ := list_of len each
    subst hll
    refine ⟨l, rfl, fun i s hi => ?_, Nat.le_trans hl hm⟩
    obtain ⟨ho, hol, hc⟩ := hls i s hi
    have hi0 : 0 < l.length := by have := (List.getElem?_eq_some_iff.1 hi).1; omega
    have hc0 := (hls 0 l[0] (List.getElem?_eq_getElem hi0)).2.2 0 _ rfl
    obtain ⟨b, f, rfl, hb⟩ : ∃ b f, x = ⟨b, f, none⟩ ∧ b < W.heap.size := by
      obtain ⟨b, f, spot⟩ := x
      have hs : spot = none := by simpa [Addr.add] using World.cell?_spot hc0
      subst hs
      exact ⟨b, f, rfl, by have := World.block_lt_of_cell? _ _ hc0; simpa [Addr.add] using this⟩
    refine ⟨b, f, rfl, hb, fun j x' hj => ?_, ho, hol⟩
    have := hc j x' hj
    rw [addr_add', addr_add'] at this
    exact this
end Go.Proofs.YtliafokjdngejaaGreatDoor
