/-
  trie: the node below a node.
-/
import Derived.Test.YtbblckcjedjbcaaGreatDoorXTurn
import Derived.Sort.KeysCollected
namespace Go.Proofs.YtbblckcjedjbcaaGreatDoor
open Go.RowKit Go.Maps Go.WideShapes
set_option linter.unusedVariables false
set_option linter.unusedSimpArgs false

theorem zeroNd (w : World) : (zeroValue 120).run Tryz.prog w = .ok (.pointer none) w := by kernel_rfl
theorem keyS {n : ByteArray} (h : n.size ≤ 1000) : keyOf Tryz.prog 9 (.string n) = some (ky n) := WideMaps.keyOf_string_mk Tryz.underlying9 (by unfold maxLen; omega)
theorem chgTurned {w w' : World} {b : Nat} (h : w.mapTurned w' b) : Chg w w' (fun j => j = b) := by
  have g := h.grown
  exact ⟨g.os, g.tape, g.output, g.size, fun i h1 hi => g.block i h1 (fun e => hi (by cases e; rfl))⟩
theorem tightX {P : Program} {w : World} {b n : Nat} {t : TypeId} {D : DataW Value} (h : w.ownsMap P t raw b n D) : w.ownsMap P t raw b (Maps.size D) D := by
  obtain ⟨es, clock, hb, F, hs, rfl⟩ := h
  exact ⟨es, clock, hb, F, by simp [Maps.size, length_sorted], rfl⟩
/-- Whether a node is there. -/
def inD (D : List Way) (q : Way) : Bool := D.any (fun r => decide (r = q))
theorem inD_iff {D : List Way} {q : Way} : inD D q = true ↔ q ∈ D := by
  unfold inD
  rw [List.any_eq_true]
  simp
theorem inD_not {D : List Way} {q : Way} (h : q ∉ D) : inD D q = false := by
  rw [Bool.eq_false_iff]
  exact fun e => h (inD_iff.1 e)
/-- What a look-up gives. -/
def kidV (p : Way) (D : List Way) (β : Way → Nat) (n : ByteArray) : Value := if inD D (p ++ [n]) then ndV (β (p ++ [n])) else .pointer none
theorem KR.at {Dm : DataW Value} {p : Way} {D : List Way} {β : Way → Nat} (h : KR Dm p D β) (n : ByteArray) {v : Value} {ps : List MemPlace} (hv : raw v = some (Dm.atKey (ky n) (.held (.pointer none)), ps)) : v = kidV p D β n := by
  unfold kidV
  by_cases hn : p ++ [n] ∈ D
  · rw [if_pos (inD_iff.2 hn)]
    rw [h.look n _ hn] at hv
    exact raw_inv hv
  · rw [if_neg (by rw [inD_not hn]; decide)]
    rw [Maps.atKey_of_not_has (by
      rw [Bool.eq_false_iff]
      intro e
      exact hn ((h.has n).1 e))] at hv
    exact raw_inv hv
theorem KR.hasB {Dm : DataW Value} {p : Way} {D : List Way} {β : Way → Nat} (h : KR Dm p D β) (n : ByteArray) : Maps.has Dm (ky n) = inD D (p ++ [n]) := by
  rw [Bool.eq_iff_iff, h.has n, inD_iff]
theorem KidsAt.look {w : World} {m : Option Nat} {p : Way} {D : List Way} {β : Way → Nat} (h : KidsAt w m p D β) {n : ByteArray} (hn : n.size ≤ 1000) : (Instr.lookup 74 (.map m) (.string n) true).run Tryz.prog w = .ok (.tuple #[kidV p D β n, .bool (inD D (p ++ [n]))]) w := by
  rcases h with ⟨rfl, h2⟩ | ⟨b, Dm, rfl, h2, h3⟩
  · rw [Maps.look_nil true keyed Tryz.underlying74 (zeroNd w) (keyS hn)]
    unfold kidV
    rw [inD_not (h2 n)]
    rfl
  · obtain ⟨v, ps, hrun, hv⟩ := h2.look_ok keyed Tryz.underlying74 (zeroNd w) (zd := .held (.pointer none)) (zp := []) rfl (keyS hn)
    rw [hrun, h3.hasB, h3.at n hv]
theorem KidsAt.get {w : World} {m : Option Nat} {p : Way} {D : List Way} {β : Way → Nat} (h : KidsAt w m p D β) {n : ByteArray} (hn : n.size ≤ 1000) : (Instr.lookup 74 (.map m) (.string n) false).run Tryz.prog w = .ok (kidV p D β n) w := by
  rcases h with ⟨rfl, h2⟩ | ⟨b, Dm, rfl, h2, h3⟩
  · rw [Maps.look_nil false keyed Tryz.underlying74 (zeroNd w) (keyS hn)]
    unfold kidV
    rw [inD_not (h2 n)]
    rfl
  · obtain ⟨v, ps, hrun, hv⟩ := h2.lookup keyed Tryz.underlying74 (zeroNd w) (zd := .held (.pointer none)) (zp := []) rfl (keyS hn)
    rw [hrun, h3.at n hv]
/-- A kid more in the map. -/
theorem kids_put {w : World} {b : Nat} {Dm : DataW Value} (h : MapAt w b (Maps.size Dm) Dm) (hsz : Maps.size Dm ≤ 1000000) {n : ByteArray} (hn : n.size ≤ 1000) (nb : Nat) :
    ∃ w', (Instr.mapUpdate 74 (.map (some b)) (.string n) (ndV nb)).run Tryz.prog w = .ok () w' ∧ MapAt w' b (Maps.size (Dm.put (ky n) (.held (ndV nb)))) (Dm.put (ky n) (.held (ndV nb))) ∧ Chg w w' (fun k => k = b) := by
  obtain ⟨w', hrun, ho, ht'⟩ := h.store keyed Tryz.underlying74 (by unfold maxLen; omega) (keyS hn) (val := ndV nb) (d := .held (ndV nb)) (ps := []) rfl
  exact ⟨w', hrun, tightX ho, chgTurned ht'⟩
theorem kids_del {w : World} {b : Nat} {Dm : DataW Value} (h : MapAt w b (Maps.size Dm) Dm) {n : ByteArray} (hn : n.size ≤ 1000) (ty : TypeId) :
    ∃ w', (Builtin.delete_ #[74, 9] ty #[.map (some b), .string n]).run Tryz.prog w = .ok (.tuple #[]) w' ∧ MapAt w' b (Maps.size (Dm.del (ky n))) (Dm.del (ky n)) ∧ Chg w w' (fun k => k = b) := by
  obtain ⟨w', hrun, ho, ht'⟩ := h.drop keyed Tryz.underlying74 (keyS hn) ty
  exact ⟨w', hrun, tightX ho, chgTurned ht'⟩
/-- The last name of a way, if the others are p. -/
def lastOf (p q : Way) : Option ByteArray := match q.getLast? with | some n => if q = p ++ [n] then some n else none | none => none
theorem lastOf_iff {p q : Way} {n : ByteArray} : lastOf p q = some n ↔ q = p ++ [n] := by
  unfold lastOf
  constructor
  · intro h
    split at h
    · split at h
      · rename_i e
        cases h
        exact e
      · cases h
    · cases h
  · rintro rfl
    simp
/-- The names of the kids of a place. -/
def kidsOf (D : List Way) (p : Way) : List ByteArray := D.filterMap (lastOf p)
theorem kids_mem {D : List Way} {p : Way} {n : ByteArray} : n ∈ kidsOf D p ↔ p ++ [n] ∈ D := by
  unfold kidsOf
  rw [List.mem_filterMap]
  constructor
  · rintro ⟨q, hq, h⟩
    rw [lastOf_iff.1 h] at hq
    exact hq
  · intro h
    exact ⟨_, h, lastOf_iff.2 rfl⟩
theorem kids_nodup {D : List Way} (h : D.Nodup) (p : Way) : (kidsOf D p).Nodup := by
  unfold kidsOf
  induction D with
  | nil => exact List.nodup_nil
  | cons a r ih =>
    obtain ⟨h1, h2⟩ := List.nodup_cons.1 h
    rw [List.filterMap_cons]
    cases e : lastOf p a with
    | none => exact ih h2
    | some n =>
      refine List.nodup_cons.2 ⟨fun hm => ?_, ih h2⟩
      have := kids_mem.1 hm
      rw [← lastOf_iff.1 e] at this
      exact h1 this
theorem kids_len (D : List Way) (p : Way) : (kidsOf D p).length ≤ D.length := List.length_filterMap_le _ _
theorem KR.keys {Dm : DataW Value} {p : Way} {D : List Way} {β : Way → Nat} (h : KR Dm p D β) (hd : D.Nodup) : ((kidsOf D p).map (fun n => n.data.toList)).Perm (strKeys Dm) := by
  obtain ⟨es, rfl, hs⟩ := h.str
  obtain ⟨es', e, hp⟩ := h.tidy
  obtain rfl : es = es' := by simpa using e
  refine perm_strKeys hp hs ?_ (fun l => ?_)
  · exact List.Pairwise.map _ (fun a b hab e => hab (ByteArray.ext (Array.ext' e))) (kids_nodup hd p)
  · have h1 := h.has ⟨l.toArray⟩
    have e : ky ⟨l.toArray⟩ = .string l := by simp [ky]
    rw [e] at h1
    rw [h1, ← kids_mem]
    constructor
    · intro hl
      obtain ⟨x, hx, rfl⟩ := List.mem_map.1 hl
      have : (⟨x.data.toList.toArray⟩ : ByteArray) = x := ByteArray.ext (by simp)
      rw [this]
      exact hx
    · intro hx
      exact List.mem_map.2 ⟨_, hx, by simp⟩
theorem sizeKeys {H : Type} (D : DataW H) : (strKeys D).length = Maps.size D := by
  cases D <;> simp [strKeys, Maps.size]
theorem KR.size {Dm : DataW Value} {p : Way} {D : List Way} {β : Way → Nat} (h : KR Dm p D β) (hd : D.Nodup) : Maps.size Dm = (kidsOf D p).length := by
  rw [← sizeKeys, ← (h.keys hd).length_eq, List.length_map]
theorem eqMapNil (w : World) (mb : Nat) (n : Nat) : (Op.equalIn (n + 1) 74 (.map (some mb)) (.map none)).run Tryz.prog w = .ok false w := by
  simp [Op.equalIn, run_underlying Tryz.underlying74]
theorem eqlMapNil (w : World) (mb : Nat) : (binOp .eql 74 (.map (some mb)) (.map none)).run Tryz.prog w = .ok (.bool false) w := by
  simp only [binOp]
  simp [Op.equal, Op.maxDepth, eqMapNil]
theorem eqNilNil (w : World) (n : Nat) : (Op.equalIn (n + 1) 74 (.map none) (.map none)).run Tryz.prog w = .ok true w := by
  simp [Op.equalIn, run_underlying Tryz.underlying74]
theorem eqlNilNil (w : World) : (binOp .eql 74 (.map none) (.map none)).run Tryz.prog w = .ok (.bool true) w := by
  simp only [binOp]
  simp [Op.equal, Op.maxDepth, eqNilNil]
end Go.Proofs.YtbblckcjedjbcaaGreatDoor
