/-
  note: entries that came in; what the row lists of the tables of kinds and of spaces.
-/
import Derived.Test.YtdjfeomdiljaeaaGreatDoorNtLaid0
import Derived.Test.YtdjfeomdiljaeaaGreatDoorNtEw
import Derived.Lib.SmallJoins
import Derived.ProofKit
import Derived.ChangeSlices
import Derived.OpenShut
import Derived.ChangeOld
namespace Go.Proofs.YtdjfeomdiljaeaaGreatDoor
open Go.RowKit Go.ChangeShapes Go.WideShapes Go.ChangeAt
set_option linter.unusedVariables false
set_option linter.unusedSimpArgs false

theorem list_ofN {α : Type} {P : Nat → α → Prop} : ∀ n, (∀ i, i < n → ∃ x, P i x) → ∃ l : List α, l.length = n ∧ ∀ (j : Nat) (x : α), l[j]? = some x → P j x
  | 0, _ => ⟨[], rfl, fun j x h => by simp at h⟩
  | n + 1, h => by
    obtain ⟨l, hl, hp⟩ := list_ofN n (fun i hi => h i (by omega))
    obtain ⟨x, hx⟩ := h n (by omega)
    refine ⟨l ++ [x], by simp [hl], fun j y hy => ?_⟩
    by_cases hj : j < l.length
    · rw [List.getElem?_append_left hj] at hy
      exact hp j y hy
    · rw [List.getElem?_append_right (by omega)] at hy
      have hj0 : j - l.length = 0 := by
        rcases Nat.eq_zero_or_pos (j - l.length) with g | g
        · exact g
        · rw [List.getElem?_eq_none (by simp; omega)] at hy
          cases hy
      rw [hj0] at hy
      have : j = n := by omega
      subst this
      have e : x = y := by simpa using hy
      subst e
      exact hx
theorem li5N {α : Type} {l : List α} (h : l.length = 5) : ∃ a b c d e, l = [a, b, c, d, e] := by
  match l, h with
  | [a, b, c, d, e], _ => exact ⟨a, b, c, d, e, rfl⟩
theorem li6N {α : Type} {l : List α} (h : l.length = 6) : ∃ a b c d e f, l = [a, b, c, d, e, f] := by
  match l, h with
  | [a, b, c, d, e, f], _ => exact ⟨a, b, c, d, e, f, rfl⟩
theorem cellsOpN : Tryz.prog.cellsOf 60 = 5 := by kernel_rfl
theorem cellsOpsN : Tryz.prog.cellsOf 22 = 1 := by kernel_rfl
theorem cellsEnN : Tryz.prog.cellsOf 24 = 6 := by kernel_rfl
theorem cells3N' : Tryz.prog.cellsOf 3 = 1 := by kernel_rfl
theorem cells9N' : Tryz.prog.cellsOf 9 = 1 := by kernel_rfl
theorem bytesOpN : Tryz.prog.bytesOf 60 = 56 := by kernel_rfl
def OpsNt (w : World) (n : Nat) (a : Option Addr) (os : List OpN) : Prop := ∀ (i : Nat) (o : OpN), os[i]? = some o → ∃ b f, a = some ⟨b, f, none⟩ ∧ b < n ∧ ∀ (j : Nat) (x' : Value), o.cl[j]? = some x' → w.cell? ⟨b, f + i * 5 + j, none⟩ = some x'
theorem OpsNt.row {w : World} {a : Option Addr} {os : List OpN} (h : OpsNt w w.heap.size a os) (hl : os.length ≤ maxLen) : RowC w a 5 (os.map OpN.cl) := by
  refine ⟨by rw [List.length_map]; exact hl, ?_⟩
  cases os with
  | nil => exact .inl rfl
  | cons o0 os =>
    right
    obtain ⟨b, f, e, hb, _⟩ := h 0 o0 rfl
    refine ⟨b, f, e, hb, fun j t cs v hj hv => ?_⟩
    rw [List.getElem?_map] at hj
    obtain ⟨o, ho, rfl⟩ := Option.map_eq_some_iff.1 hj
    obtain ⟨b', f', e', _, hc⟩ := h j o ho
    rw [e] at e'
    cases e'
    rw [← Nat.add_assoc]
    exact hc t v hv
theorem op_ofN {H : Type} {enc : TypeId × Value → H} {W : World} {n : Nat} {cs : List Value} {y : DataW H × List MemPlace} (h : DataW.trod enc Tryz.prog W 0 (fun _ => true) true n 60 cs = some y) : ∃ o : OpN, cs = o.cl := by
  obtain ⟨xs, m, _, hx, hl, hxl, hf⟩ := DataW.trod_struct Tryz.underlying60 h
  rw [cellsOpN] at hl
  obtain ⟨c0, c1, c2, c3, c4, rfl⟩ := li5N hl
  obtain ⟨x0, x1, x2, x3, x4, rfl⟩ := li5N (l := xs) hxl
  obtain ⟨z0, q0, _⟩ := DataW.trod_int Tryz.underlying3 (hf 0 _ rfl)
  obtain ⟨z1, q1, _⟩ := DataW.trod_string Tryz.underlying9 (hf 1 _ rfl)
  obtain ⟨z2, q2, _⟩ := DataW.trod_string Tryz.underlying9 (hf 2 _ rfl)
  obtain ⟨z3, q3, _⟩ := DataW.trod_int Tryz.underlying3 (hf 3 _ rfl)
  obtain ⟨z4, q4, _⟩ := DataW.trod_int Tryz.underlying3 (hf 4 _ rfl)
  simp [cells3N', cells9N'] at q0 q1 q2 q3 q4
  subst q0 q1 q2 q3 q4
  exact ⟨⟨z0, z1, z2, z3, z4⟩, rfl⟩
theorem ops_ofN {H : Type} {enc : TypeId × Value → H} {W : World} {n : Nat} {v : Value} {y : DataW H × List MemPlace} (h : DataW.trod enc Tryz.prog W 0 (fun _ => true) true n 22 [v] = some y) (hz : ∀ m ∈ y.1.weights Tryz.prog 22, m ≤ reachBytes) :
    ∃ a c os, v = .slice a os.length c ∧ OpsNt W W.heap.size a os ∧ os.length ≤ 2513169434846 ∧ os.length ≤ c ∧ (a = none → c = 0) := by
  rcases Go.Deep.open_slice Tryz.underlying22 h with ⟨hcs, _⟩ | ⟨x, len, cap, m, n', D, Pl, hcs, _, hl, hm, hmm, hxx, hx⟩
  · have hv : v = .slice none 0 0 := by simpa using hcs
    subst hv
    exact ⟨none, 0, [], rfl, fun i o hi => by simp at hi, Nat.zero_le _, Nat.le_refl _, fun _ => rfl⟩
  · have hv : v = .slice (some x) len cap := by simpa using hcs
    subst hv
    have hmc : m = cap := by simpa using hmm
    subst hmc
    have hw : len * 56 ≤ reachBytes := by
      refine Nat.le_trans ?_ (hz ((((List.range len).map D).length + ((List.range (m - len)).map fun j => D (len + j)).length) * Tryz.prog.bytesOf 60) (by rw [hxx]; simp [DataW.weights, Tryz.underlying22]))
      rw [bytesOpN]
      simp
      omega
    have each : ∀ i, i < len → ∃ o : OpN, ∀ j x', o.cl[j]? = some x' → W.cell? ((x.add (i * 5)).add j) = some x' := by
      intro i hi
      obtain ⟨cs', h1, h2⟩ := hx i (by omega)
      obtain ⟨o, rfl⟩ := op_ofN h2
      rw [cellsOpN] at h1
      obtain ⟨_, _, hc⟩ := World.cells?_some h1
      exact ⟨o, fun j x' hj => by rw [hc j (by have := (List.getElem?_eq_some_iff.1 hj).1; simpa using this)]; exact hj⟩
    obtain ⟨l, hll, hls⟩ := list_ofN len each
    subst hll
    refine ⟨some x, m, l, rfl, fun i o hi => ?_, ?_, by omega, fun e => by cases e⟩
    · have hi0 : 0 < l.length := by have := (List.getElem?_eq_some_iff.1 hi).1; omega
      have hc0 := hls 0 l[0] (List.getElem?_eq_getElem hi0) 0 _ rfl
      obtain ⟨b, f, rfl, hb⟩ : ∃ b f, x = ⟨b, f, none⟩ ∧ b < W.heap.size := by
        obtain ⟨b, f, spot⟩ := x
        have hs : spot = none := by simpa [Addr.add] using World.cell?_spot hc0
        subst hs
        exact ⟨b, f, rfl, by have := World.block_lt_of_cell? _ _ hc0; simpa [Addr.add] using this⟩
      refine ⟨b, f, rfl, hb, fun j x' hj => ?_⟩
      have := hls i o hi j x' hj
      rw [addr_add, addr_add] at this
      exact this
    · unfold reachBytes at hw
      omega
set_option maxRecDepth 100000 in
theorem ent_ofN {H : Type} {enc : TypeId × Value → H} {W : World} {r : Reach} {b0 : Nat} {v : Value} {d : DataW H} {p : List MemPlace} (hv : Value.okWide Tryz.prog W r b0 24 v) (h : DataW.Trod enc Tryz.prog W 0 (fun _ => true) true 24 v d p) (hz : ∀ m ∈ d.weights Tryz.prog 24, m ≤ reachBytes) :
    ∃ x : EnN, v = x.val ∧ x.At W ∧ (x.opsA = none → x.opsC = 0) ∧ (x.ops.length + 1) * 56 ≤ 140737488355328 := by
  obtain ⟨cs, rfl, hsz⟩ := okWide_struct Tryz.underlying24 hv
  rw [cellsEnN] at hsz
  obtain ⟨l, hl⟩ : ∃ l, cs = l.toArray := ⟨cs.toList, by simp⟩
  subst hl
  obtain ⟨c0, c1, c2, c3, c4, c5, rfl⟩ := li6N (l := l) (by simpa using hsz)
  obtain ⟨fuel, hf0⟩ := h
  have hf1 : DataW.trod enc Tryz.prog W 0 (fun _ => true) true fuel 24 [c0, c1, c2, c3, c4, c5] = some (d, p) := hf0
  obtain ⟨xs, m, _, hx, hl, hxl, hf⟩ := DataW.trod_struct Tryz.underlying24 hf1
  obtain ⟨x0, x1, x2, x3, x4, x5, rfl⟩ := li6N (l := xs) hxl
  obtain ⟨z0, q0, _⟩ := DataW.trod_int Tryz.underlying3 (hf 0 _ rfl)
  obtain ⟨z1, q1, _⟩ := DataW.trod_int Tryz.underlying3 (hf 1 _ rfl)
  obtain ⟨z2, q2, _⟩ := DataW.trod_int Tryz.underlying3 (hf 2 _ rfl)
  obtain ⟨z3, q3, _⟩ := DataW.trod_int Tryz.underlying3 (hf 3 _ rfl)
  obtain ⟨z4, q4, _⟩ := DataW.trod_int Tryz.underlying3 (hf 4 _ rfl)
  have g5 : DataW.trod enc Tryz.prog W 0 (fun _ => true) true m 22 (([c0, c1, c2, c3, c4, c5].drop 5).take (Tryz.prog.cellsOf 22)) = [x0, x1, x2, x3, x4, x5][5]? := hf 5 _ rfl
  rw [cellsOpsN] at g5
  have g5' : DataW.trod enc Tryz.prog W 0 (fun _ => true) true m 22 [c5] = some x5 := g5
  clear g5
  simp [cells3N'] at q0 q1 q2 q3 q4
  subst q0 q1 q2 q3 q4
  simp only [Prod.mk.injEq] at hx
  obtain ⟨a, c, os, rfl, ho, hol, hoc, hon⟩ := ops_ofN g5' (fun k hk => hz k (by
    rw [hx.1]
    simp only [DataW.weights, Tryz.underlying24]
    exact DataW.weights_mem_each (j := 5) rfl rfl k hk))
  exact ⟨⟨z0, z1, z2, z3, z4, a, c, os⟩, rfl, ⟨ho.row (by unfold maxLen; omega), hoc⟩, hon, by show (os.length + 1) * 56 ≤ _; omega⟩
theorem gKf : Tryz.prog.globalNamed "herald/note.kindFields" = some 0 := by kernel_rfl
theorem gKfType : (Tryz.prog.globals[0]?).map (·.type) = some 152 := by kernel_rfl
theorem cellsKf : Tryz.prog.cellsOf 152 = 25 := by kernel_rfl
theorem datumKf : (Rows.laid_herald_note_kindFields : DataW Unit) = .agg (kfT.map fun s => .lit (.string s.data.toList)) := by kernel_rfl
theorem cells_of_strs {H : Type} {enc : TypeId × Value → H} {P : Program} {w : World} {base : Nat} {sp : Nat → Bool} {held : Bool} {fuel : Nat} {t e : TypeId} {n : Nat} {cs : List Value} {zs : List ByteArray} {p : List MemPlace}
    (ht : P.underlying t = some (.array n e)) (he : P.underlying e = some .string) (hce : P.cellsOf e = 1) (hct : P.cellsOf t = n)
    (h : DataW.trod enc P w base sp held fuel t cs = some (.agg (zs.map fun z => .lit (.string z.data.toList)), p)) : cs = zs.map fun z => Value.string z := by
  cases fuel with
  | zero => simp [DataW.trod] at h
  | succ fuel =>
    simp only [DataW.trod, ht, hce, hct, Nat.mul_one] at h
    split at h
    · rename_i hl
      obtain ⟨xs, hm, hx⟩ := Option.map_eq_some_iff.1 h
      have hxs : xs.map (·.1) = zs.map fun z => (DataW.lit (.string z.data.toList) : DataW H) := by
        have := congrArg Prod.fst hx
        simpa using this
      have hxl : xs.length = n := by simpa using Lib.mapM_length hm
      have hzl : zs.length = n := by
        have := congrArg List.length hxs
        simp at this
        omega
      apply List.ext_getElem?
      intro i
      by_cases hi : i < n
      · obtain ⟨b, hb, hf⟩ := Lib.mapM_at hm i i (by simp [hi])
        obtain ⟨z, hc, rfl, _⟩ := DataW.trod_string he hf
        have h1 : cs[i]? = some (.string z) := by
          have := congrArg (·[0]?) hc
          simpa [List.getElem?_take, List.getElem?_drop] using this
        have h2 : (xs.map (·.1))[i]? = some (DataW.lit (.string z.data.toList) : DataW H) := by simp [hb]
        rw [hxs] at h2
        simp only [List.getElem?_map, Option.map_eq_some_iff, DataW.lit.injEq, Lit.string.injEq] at h2
        obtain ⟨z', hz', hzz⟩ := h2
        have hzz' : z' = z := by
          cases z'
          cases z
          simp only at hzz
          rw [Array.toList_inj.1 hzz]
        subst hzz'
        simp [h1, hz']
      · rw [List.getElem?_eq_none (by omega), List.getElem?_eq_none (by simp; omega)]
    · cases h
theorem datumSp : (Rows.laid_strings_asciiSpace : DataW Unit) = Lib.tabData .u8 Lib.asciiSpaceTab := by kernel_rfl
theorem gSp : Tryz.prog.globalNamed "strings.asciiSpace" = some 2 := by kernel_rfl
theorem gSpType : (Tryz.prog.globals[2]?).map (·.type) = some 218 := by kernel_rfl
theorem underSp : Tryz.prog.underlying 218 = some (.array 256 (Tryz.prog.elem 218)) := by kernel_rfl
theorem underSpE : Tryz.prog.underlying (Tryz.prog.elem 218) = some (.int .u8) := by kernel_rfl
theorem cellsSp : Tryz.prog.cellsOf 218 = 256 := by kernel_rfl
theorem cellsSpE : Tryz.prog.cellsOf (Tryz.prog.elem 218) = 1 := by kernel_rfl
theorem kfAt_of {W : World} {l : List (String × DataW Unit)} (hf : (l.filter fun x => x.1 == "herald/note.kindFields") = [("herald/note.kindFields", Rows.laid_herald_note_kindFields)])
    (hf2 : (l.filter fun x => x.1 == "strings.asciiSpace") = [("strings.asciiSpace", Rows.laid_strings_asciiSpace)]) (hL : laidMetH Tryz.prog l W) : KfAt W where
  kf := by
    have h1 := hL.filter (fun x => x.1 == "herald/note.kindFields")
    rw [hf, Go.MakeChecks.laidMetH_plain _ _ _ (by kernel_rfl)] at h1
    obtain ⟨ps, ⟨g', t', cs, fuel, p, q, hg', ht', hvar, hd, _, _⟩, _⟩ := h1
    obtain rfl := Option.some.inj (gKf.symm.trans hg')
    obtain rfl := Option.some.inj (gKfType.symm.trans ht')
    rw [datumKf] at hd
    have hcs := cells_of_strs Tryz.underlying152 Tryz.underlying9 cells9N' cellsKf hd
    intro k s hs
    rw [World.var?_cell gKf hvar k, ← Array.getElem?_toList, hcs, List.getElem?_map, hs]
    rfl
  tab := by
    have h1 := hL.filter (fun x => x.1 == "strings.asciiSpace")
    rw [hf2, Go.MakeChecks.laidMetH_plain _ _ _ (by kernel_rfl), datumSp] at h1
    exact Lib.tabIs_of_head (rest := []) gSp gSpType underSp underSpE cellsSpE cellsSp h1
set_option maxRecDepth 100000 in
theorem KfAt.below {w w' : World} (h : KfAt w) (hb : Below w.heap.size w w') : KfAt w' where
  kf k s hs := by
    have h0 := h.kf k s hs
    rw [hb.cell (p := ⟨0, k, none⟩) (World.block_lt_of_cell? _ _ h0)]
    exact h0
  tab := by
    have hc := h.tab.cell gSp 0 (by decide)
    exact var?_below hb gSp (World.block_lt_of_cell? _ _ hc) h.tab
end Go.Proofs.YtdjfeomdiljaeaaGreatDoor
