/-
  view: notes and acts, as rows of cells.
-/
import Derived.Test.YtlbhnlpdijhmlaaVRow
namespace Go.Proofs.Ytlbhnlpdijhmlaa
open Go.RowKit
set_option linter.unusedVariables false
set_option linter.unusedSimpArgs false

/-- The cells of the note that tells a view. -/
abbrev tellCs (t : VwT) : List Value := [.int .i64 22, .int .i64 t.n, .int .i64 t.p, .int .i64 t.b, .int .i64 0, .int .i64 0, .int .i64 0, .int .i64 0, .int .i64 0, .int .i64 0, .int .i64 0, .slice none 0 0, .slice none 0 0, .int .i64 0, .int .i64 0, .int .i64 0, .slice none 0 0, .slice none 0 0, .slice none 0 0, .slice none 0 0, .string ⟨#[]⟩]
abbrev zeroCs : List Value := [.int .i64 0, .int .i64 0, .int .i64 0, .int .i64 0, .int .i64 0, .int .i64 0, .int .i64 0, .int .i64 0, .int .i64 0, .int .i64 0, .int .i64 0, .slice none 0 0, .slice none 0 0, .int .i64 0, .int .i64 0, .int .i64 0, .slice none 0 0, .slice none 0 0, .slice none 0 0, .slice none 0 0, .string ⟨#[]⟩]
/-- The cells of a note. -/
structure NoAt (ns : List Value) (k n : Int) : Prop where
  len : ns.length = 21
  k : ns[0]? = some (.int .i64 k)
  n : ns[1]? = some (.int .i64 n)
  one : ∀ v ∈ ns, v.oneCell' = true
/-- The cells of an act. -/
structure AcAt (cs : List Value) (kind a b : Int) (ns : List Value) (k n : Int) : Prop where
  eq : cs = .int .i64 kind :: .int .i64 a :: .int .i64 b :: ns
  note : NoAt ns k n
theorem AcAt.len {cs : List Value} {kind a b : Int} {ns : List Value} {k n : Int} (h : AcAt cs kind a b ns k n) : cs.length = 24 := by rw [h.eq]; simp [h.note.len]
theorem AcAt.one {cs : List Value} {kind a b : Int} {ns : List Value} {k n : Int} (h : AcAt cs kind a b ns k n) : ∀ v ∈ cs, v.oneCell' = true := by
  rw [h.eq]
  intro v hv
  simp only [List.mem_cons] at hv
  rcases hv with rfl | rfl | rfl | hv
  · rfl
  · rfl
  · rfl
  · exact h.note.one v hv
/-- What an act is, with what it needs of the present view. -/
def wholeL (t : VwT) (cs : List Value) (kind a b : Int) : List Value :=
  if kind = 4 then .int .i64 1 :: .int .i64 (if Int.tmod a 2 = 0 then t.p else t.b) :: .int .i64 b :: zeroCs
  else if kind = 5 then .int .i64 2 :: .int .i64 t.n :: .int .i64 t.p :: zeroCs
  else if kind = 6 then .int .i64 3 :: .int .i64 t.p :: .int .i64 0 :: [.int .i64 23, .int .i64 t.n, .int .i64 0, .int .i64 0, .int .i64 0, .int .i64 0, .int .i64 0, .int .i64 0, .int .i64 0, .int .i64 0, .int .i64 0, .slice none 0 0, .slice none 0 0, .int .i64 0, .int .i64 0, .int .i64 0, .slice none 0 0, .slice none 0 0, .slice none 0 0, .slice none 0 0, .string ⟨#[]⟩]
  else cs
structure WhT where
  kind : Int
  a : Int
  b : Int
  ns : List Value
  k : Int
  n : Int
/-- The same, by its parts. -/
def wholeT (t : VwT) (x : WhT) : WhT :=
  if x.kind = 4 then ⟨1, if Int.tmod x.a 2 = 0 then t.p else t.b, x.b, zeroCs, 0, 0⟩
  else if x.kind = 5 then ⟨2, t.n, t.p, zeroCs, 0, 0⟩
  else if x.kind = 6 then ⟨3, t.p, 0, [.int .i64 23, .int .i64 t.n, .int .i64 0, .int .i64 0, .int .i64 0, .int .i64 0, .int .i64 0, .int .i64 0, .int .i64 0, .int .i64 0, .int .i64 0, .slice none 0 0, .slice none 0 0, .int .i64 0, .int .i64 0, .int .i64 0, .slice none 0 0, .slice none 0 0, .slice none 0 0, .slice none 0 0, .string ⟨#[]⟩], 23, t.n⟩
  else x
abbrev WhT.At (x : WhT) (cs : List Value) : Prop := AcAt cs x.kind x.a x.b x.ns x.k x.n
theorem wholeL_at {t : VwT} {x : WhT} {cs : List Value} (h : x.At cs) : (wholeT t x).At (wholeL t cs x.kind x.a x.b) := by
  unfold wholeT wholeL
  by_cases k4 : x.kind = 4
  · rw [if_pos k4, if_pos k4]
    exact ⟨rfl, rfl, rfl, rfl, by simp [Value.oneCell']⟩
  rw [if_neg k4, if_neg k4]
  by_cases k5 : x.kind = 5
  · rw [if_pos k5, if_pos k5]
    exact ⟨rfl, rfl, rfl, rfl, by simp [Value.oneCell']⟩
  rw [if_neg k5, if_neg k5]
  by_cases k6 : x.kind = 6
  · rw [if_pos k6, if_pos k6]
    exact ⟨rfl, rfl, rfl, rfl, by simp [Value.oneCell']⟩
  rw [if_neg k6, if_neg k6]
  exact h
theorem range_of {w : World} {b : Nat} {cs : List Value} {t : TypeId} (h : w.heap[b]? = some (.cells cs.toArray t (0, 0))) : w.rangeAt b 0 cs := fun j v hv => by
  rw [Nat.zero_add]
  simpa [World.cell?, h] using hv
theorem there_of {w : World} {b n : Nat} {cs : Array Value} {t : TypeId} (h : w.heap[b]? = some (.cells cs t (0, 0))) (hn : n ≤ cs.size) : w.there b 0 n := fun j hj => by
  rw [Nat.zero_add]
  refine ⟨?_, by simp [World.frozen?, h]⟩
  simp [World.cell?, h, Array.getElem?_eq_getElem (show j < cs.size by omega)]
theorem chg_setCells (b : Nat) : ∀ (vs : List Value) (o : Nat) (w : World), Chg w (w.setCells b o vs) (fun j => j = b)
  | [], o, w => Chg.refl w _
  | v :: vs, o, w => (Chg.set w ⟨b, o, none⟩ v).trans (chg_setCells b vs (o + 1) (w.setCell ⟨b, o, none⟩ v))
theorem below_setCells {B : Nat} {w0 w : World} {b : Nat} (h : Below B w0 w) (hb : B ≤ b) (hB : B ≤ w0.heap.size) (vs : List Value) (o : Nat) : Below B w0 (w.setCells b o vs) := by
  have hc := chg_setCells b vs o w
  exact ⟨hc.os.trans h.os, hc.tape.trans h.tape, hc.output.trans h.output, Nat.le_trans h.size hc.size, fun j hj => by rw [hc.block j (Nat.lt_of_lt_of_le (Nat.lt_of_lt_of_le hj hB) h.size) (fun e => by have e : j = b := e; omega)]; exact h.block j hj⟩
theorem results_mid {P : Program} {fn : Func} {p : Tmp} {ty : TypeId} (h : fn.results = #[.cell p ty]) (tmps : Array Value) (w : World) (g : Nat) (cs : List Value) (d : TypeDesc)
    (hp : tmps.getD p undef = .pointer (some ⟨g, 0, none⟩)) (hg : w.rangeAt g 0 cs) (hu : P.underlying ty = some d) (hd : d.isRow = true) (hi : (P.info? ty).map (·.size) = some cs.length) :
    (results fn tmps).run P w = .ok (.agg cs.toArray) w := by
  have hp' : tmps[p]?.getD undef = .pointer (some ⟨g, 0, none⟩) := by simpa using hp
  simp [results, h, hp', asAddr, run_loadVar_mid w g 0 ty cs d hg hu hd hi]
theorem alloc3 {w : World} {a b c : Array Value} {t u s : TypeId} : let W := ((w.alloc (.cells a t)).alloc (.cells b u)).alloc (.cells c s)
    W.heap[w.heap.size]? = some (.cells a t (0, 0)) ∧ W.heap[w.heap.size + 1]? = some (.cells b u (0, 0)) ∧ W.heap[w.heap.size + 1 + 1]? = some (.cells c s (0, 0)) ∧ Below w.heap.size w W ∧ W.heap.size = w.heap.size + 1 + 1 + 1 :=
  ⟨new_old (new_old (heap_alloc_new _ _) _) _, new_old (heap_new' (by simp)) _, heap_new' (by simp), (((Below.refl _ _).alloc (Nat.le_refl _) _).alloc (by simp) _).alloc (by simp; omega) _, by simp⟩
theorem Try.infoAct : (Try.prog.info? 49).map (·.size) = some 24 := by kernel_rfl
theorem Try.infoNote : (Try.prog.info? 47).map (·.size) = some 21 := by kernel_rfl
end Go.Proofs.Ytlbhnlpdijhmlaa
