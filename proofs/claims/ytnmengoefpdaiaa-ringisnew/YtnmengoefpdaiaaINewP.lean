/-
  ring: RingIsNew.
-/
import Derived.Test.YtnmengoefpdaiaaINewS
namespace Go.Proofs.Ytnmengoefpdaiaa.I
open Go.RowKit
set_option linter.unusedVariables false
set_option linter.unusedSimpArgs false

def Xa (R : RingT) (ms : List Int) (i : Nat) : List EnT := R.afterL ((R.floor : Int) + ((i % 3 : Nat) : Int)) ((ms[i]?).getD 0)
def XA (R : RingT) (ms : List Int) (t : Nat) : List (List EnT) := (List.range t).map (Xa R ms)
def XS (R : RingT) (t : Nat) : List (List EnT) := (R.l.take t).map (fun e => [e])
def XX (R : RingT) (ms : List Int) : List (List EnT) := [R.l] ++ XA R ms ms.length ++ XS R R.l.length
theorem XA_snoc (R : RingT) (ms : List Int) (t : Nat) : XA R ms (t + 1) = XA R ms t ++ [Xa R ms t] := by simp [XA, List.range_succ]
theorem XS_snoc {R : RingT} {t : Nat} {e : EnT} (h : R.l[t]? = some e) : XS R (t + 1) = XS R t ++ [[e]] := by
  unfold XS
  rw [take_at h, List.map_append]
  rfl
theorem afterL_sub (R : RingT) (n most : Int) : ∀ e ∈ R.afterL n most, e ∈ R.l := fun e he => by
  unfold RingT.afterL at he
  split at he
  · exact List.mem_of_mem_drop (List.mem_of_mem_take he)
  · cases he
theorem afterL_len (R : RingT) (n most : Int) : (R.afterL n most).length ≤ R.l.length := by
  unfold RingT.afterL
  split
  · rw [List.length_take, List.length_drop]; omega
  · simp
/-- Told so far. -/
structure Ti (w1 w : World) (tv wv : Value) (us cs : List Value) (PP CC : List (List PEnt)) (E : List (List EnT)) : Prop where
  tl : Tl w1 w tv wv us cs PP CC
  eP : PP.map (fun P => P.map (·.e)) = E
  eC : CC.map (fun P => P.map (·.e)) = E
theorem Ti.len {w1 w : World} {tv wv : Value} {us cs : List Value} {PP CC : List (List PEnt)} {E : List (List EnT)} (h : Ti w1 w tv wv us cs PP CC E) : us.length = E.length ∧ cs.length = E.length := by
  refine ⟨?_, ?_⟩
  · rw [h.tl.each.1, ← h.eP, List.length_map]
  · rw [h.tl.eachW.1, ← h.eC, List.length_map]
theorem Ti.ext {w1 w w' : World} {tv wv : Value} {us cs : List Value} {PP CC : List (List PEnt)} {E : List (List EnT)} (h : Ti w1 w tv wv us cs PP CC E) (hb : Below w.heap.size w w') : Ti w1 w' tv wv us cs PP CC E := ⟨h.tl.ext hb, h.eP, h.eC⟩
theorem atT_in {R : RingT} {i : Nat} {e : EnT} (h : R.l[i]? = some e) : R.atC ((R.floor : Int) + 1 + (i : Int)) = 0 ∧ R.atE ((R.floor : Int) + 1 + (i : Int)) = e := by
  have hi := (List.getElem?_eq_some_iff.1 h).1
  have hl : (R.last : Int) = R.floor + R.l.length := by show ((R.floor + R.l.length : Nat) : Int) = _; omega
  refine ⟨?_, ?_⟩
  · unfold RingT.atC
    rw [if_neg (by omega), if_neg (by omega)]
  · unfold RingT.atE
    rw [if_neg (by omega), show ((R.floor : Int) + 1 + (i : Int) - R.floor - 1).toNat = i by omega, h]
    rfl
/-- A list of one entry. -/
theorem ents_one {w : World} {g : Nat} {e : EnT} {x : Value} (hb : w.heap[g]? = some (.cells #[.int .i64 e.s, .int .i64 e.v, .int .i64 e.k, .int .i64 e.se, .int .i64 e.rq, x] 38 (0, 0))) (ho : OwnOps w x e.ops) : EntsAt w (.slice (some ⟨g, 0, none⟩) 1 1) [⟨e, x⟩] := by
  refine ⟨owns_of_blk (by rw [hb]; simp [rowCs]) (by simp [rowCs]) (by unfold maxLen; omega), fun p hp => ?_⟩
  rw [List.mem_singleton] at hp
  subst hp
  exact ho
theorem nd_one {B : Nat} {v : Value} {e : EnT} {x : Value} (h1 : ∀ k, x.ownBlock = some k → B ≤ k) (h2 : ∀ k, v.ownBlock = some k → B ≤ k) : NdE B v [⟨e, x⟩] := by
  refine ⟨fun p hp k hk => ?_, fun i j p q k hp hq _ _ => ?_, h2⟩
  · rw [List.mem_singleton] at hp
    subst hp
    exact h1 k hk
  · have h3 := (List.getElem?_eq_some_iff.1 hp).1
    have h4 := (List.getElem?_eq_some_iff.1 hq).1
    simp at h3 h4
    omega
end Go.Proofs.Ytnmengoefpdaiaa.I
