/-
  line: scripts that came in.
-/
import Derived.Test.YtfcobhgjkibdgaaLSit
import Derived.ProofKit
import Derived.ChangeSlices
import Derived.OpenShut
import Derived.ChangeOld
import Derived.SizedLaws
import Derived.Deep.Slices
import Derived.Deep.Strs
namespace Go.Proofs.Ytfcobhgjkibdgaa
open Go.RowKit Go.ChangeShapes Go.WideShapes Go.ChangeAt
set_option linter.unusedVariables false
set_option linter.unusedSimpArgs false

/-- A step in memory. -/
structure stE (w : World) (S : Nat → Prop) (b o : Nat) (s : StL) (u : Value) : Prop where
  kind : w.cell? ⟨b, o, none⟩ = some (.int .i64 s.kind)
  on : w.cell? ⟨b, o + 1, none⟩ = some (.int .i64 s.on)
  cu : w.cell? ⟨b, o + 2, none⟩ = some u
  n : w.cell? ⟨b, o + 3, none⟩ = some (.int .i64 s.n)
  a : w.cell? ⟨b, o + 4, none⟩ = some (.int .i64 s.a)
  t : w.cell? ⟨b, o + 5, none⟩ = some (.int .i64 s.t)
  ms : MssAt w S u s.ms
abbrev StsAt (w : World) (S : Nat → Prop) (v : Value) (l : List StL) : Prop := RowAt w S 6 (fun b o s => ∃ u, stE w S b o s u) v l
theorem stE.keep {w w' : World} {S : Nat → Prop} {b o : Nat} {s : StL} {u : Value} (h : stE w S b o s u) (hk : Kp w w' S) (hb : b < w.heap.size) (hS : S b) : stE w' S b o s u :=
  ⟨hk.cell hb hS h.kind, hk.cell hb hS h.on, hk.cell hb hS h.cu, hk.cell hb hS h.n, hk.cell hb hS h.a, hk.cell hb hS h.t, MssAt.keep h.ms hk⟩
theorem StsAt.keep {w w' : World} {S : Nat → Prop} {v : Value} {l : List StL} (h : StsAt w S v l) (hk : Kp w w' S) : StsAt w' S v l :=
  RowAt.map h hk.size (fun _ _ h => h) (fun b o x hb hS ⟨u, hx⟩ => ⟨u, hx.keep hk hb hS⟩)
theorem listOf {α : Type} {P : Nat → α → Prop} : ∀ n, (∀ i, i < n → ∃ x, P i x) → ∃ l : List α, l.length = n ∧ ∀ (j : Nat) (x : α), l[j]? = some x → P j x
  | 0, _ => ⟨[], rfl, fun j x h => by simp at h⟩
  | n + 1, h => by
    obtain ⟨l, hl, hp⟩ := listOf n (fun i hi => h i (by omega))
    obtain ⟨x, hx⟩ := h n (by omega)
    refine ⟨l ++ [x], by simp [hl], fun j y hy => ?_⟩
    by_cases hj : j < l.length
    · rw [List.getElem?_append_left hj] at hy
      exact hp j y hy
    · rw [List.getElem?_append_right (by omega)] at hy
      have hj0 : j - l.length = 0 := by
        rcases Nat.eq_zero_or_pos (j - l.length) with g | g
        · exact g
        · rw [List.getElem?_eq_none (by simp; omega)] at hy
          cases hy
      rw [hj0] at hy
      have : j = n := by omega
      subst this
      have e : x = y := by simpa using hy
      subst e
      exact hx
theorem weightsAll_mem {H : Type} {P : Program} {e : TypeId} {d : DataW H} {n : Nat} : ∀ {l : List (DataW H)}, d ∈ l → n ∈ d.weights P e → n ∈ DataW.weightsAll P e l
  | x :: r, hd, hn => by
    simp only [DataW.weightsAll, List.mem_append]
    rcases List.mem_cons.1 hd with rfl | hd
    · exact .inl hn
    · exact .inr (weightsAll_mem hd hn)
theorem row_of {α H : Type} {enc : TypeId × Value → H} {W : World} {tS tE sz bt : Nat} (hu : Try.prog.underlying tS = some (.slice tE)) (hc : Try.prog.cellsOf tE = sz) (hby : Try.prog.bytesOf tE = bt) (h0 : 0 < sz)
    (E : Nat → Nat → α → Prop) (G : α → Prop)
    (elem : ∀ (n : Nat) (cs : List Value) (y : DataW H × List MemPlace), DataW.trod enc Try.prog W 0 (fun _ => true) true n tE cs = some y → (∀ m ∈ y.1.weights Try.prog tE, m ≤ reachBytes) → ∃ x : α, G x ∧ ∀ b o, (∀ j x', cs[j]? = some x' → W.cell? ⟨b, o + j, none⟩ = some x') → E b o x)
    {n : Nat} {v : Value} {y : DataW H × List MemPlace} (h : DataW.trod enc Try.prog W 0 (fun _ => true) true n tS [v] = some y) (hz : ∀ m ∈ y.1.weights Try.prog tS, m ≤ reachBytes) :
    ∃ l : List α, RowAt W (fun b => b < W.heap.size) sz E v l ∧ l.length * bt ≤ reachBytes ∧ (∀ x ∈ l, G x) ∧ l.length ≤ maxLen := by
  rcases Go.Deep.open_slice hu h with ⟨hcs, _⟩ | ⟨x, len, cap, m, n', D, Pl, hcs, _, hl, hm, hmm, hxx, hx⟩
  · have hv : v = .slice none 0 0 := by simpa using hcs
    subst hv
    exact ⟨[], RowAt.nil _ _ _ _, (by simp), (fun o ho => by cases ho), Nat.zero_le _⟩
  · have hv : v = .slice (some x) len cap := by simpa using hcs
    subst hv
    have hmc : m = cap := by simpa using hmm
    subst hmc
    have hw : len * bt ≤ reachBytes := by
      refine Nat.le_trans ?_ (hz ((((List.range len).map D).length + ((List.range (m - len)).map fun j => D (len + j)).length) * Try.prog.bytesOf tE) (by rw [hxx]; simp [DataW.weights, hu]))
      rw [hby]
      exact Nat.mul_le_mul_right _ (by simp)
    have each : ∀ i, i < len → ∃ e : α, G e ∧ (∃ z, W.cell? (x.add (i * sz)) = some z) ∧ ∀ b o, (∀ j, x.add (i * sz + j) = ⟨b, o + j, none⟩) → E b o e := by
      intro i hi
      obtain ⟨cs', h1, h2⟩ := hx i (by omega)
      obtain ⟨e, he, hE⟩ := elem _ _ _ h2 (fun k hk => hz k (by
        rw [hxx]
        simp only [DataW.weights, hu, List.mem_cons, List.mem_append]
        exact .inr (.inl (weightsAll_mem (List.mem_map.2 ⟨i, List.mem_range.2 hi, rfl⟩) hk))))
      rw [hc] at h1
      obtain ⟨_, hlen, hcell⟩ := World.cells?_some h1
      have hadd : ∀ j, (x.add (i * sz)).add j = x.add (i * sz + j) := fun j => by
        rw [Addr.add_add]
      refine ⟨e, he, ⟨cs'[0]'(by omega), ?_⟩, fun b o ho => hE b o fun j x' hj => ?_⟩
      · have := hcell 0 h0
        rw [hadd] at this
        rw [Nat.add_zero] at this
        rw [this]
        exact List.getElem?_eq_getElem _
      · rw [← ho j, ← hadd j, hcell j (by have := (List.getElem?_eq_some_iff.1 hj).1; omega)]
        exact hj
    obtain ⟨l, hll, hls⟩ := listOf len each
    subst hll
    refine ⟨l, ⟨some x, m, rfl, hl, (fun h => by cases h), ?_⟩, hw, fun e he => ?_, Nat.le_trans hl hm⟩
    · rcases Nat.eq_zero_or_pos l.length with g0 | g0
      · exact .inl (List.eq_nil_of_length_eq_zero g0)
      · obtain ⟨_, ⟨z, hc0⟩, _⟩ := hls 0 l[0] (List.getElem?_eq_getElem g0)
        obtain ⟨b, f, rfl, hb⟩ : ∃ b f, x = ⟨b, f, none⟩ ∧ b < W.heap.size := by
          obtain ⟨b, f, spot⟩ := x
          have hs : spot = none := by simpa [Addr.add] using World.cell?_spot hc0
          subst hs
          exact ⟨b, f, rfl, by have := World.block_lt_of_cell? _ _ hc0; simpa [Addr.add] using this⟩
        exact .inr ⟨b, f, rfl, hb, hb, fun i e hi => (hls i e hi).2.2 b (f + i * sz) (fun j => by rw [addr_add, Nat.add_assoc])⟩
    · obtain ⟨j, hj⟩ := List.getElem?_of_mem he
      exact (hls j e hj).1
theorem list3 {α : Type} {l : List α} (h : l.length = 3) : ∃ a b c, l = [a, b, c] := by
  match l, h with
  | [a, b, c], _ => exact ⟨a, b, c, rfl⟩
theorem list6 {α : Type} {l : List α} (h : l.length = 6) : ∃ a b c d e f, l = [a, b, c, d, e, f] := by
  match l, h with
  | [a, b, c, d, e, f], _ => exact ⟨a, b, c, d, e, f, rfl⟩
theorem Try.cells3' : Try.prog.cellsOf 3 = 1 := by kernel_rfl
theorem Try.cells9' : Try.prog.cellsOf 9 = 1 := by kernel_rfl
theorem Try.cellsMs : Try.prog.cellsOf 23 = 3 := by kernel_rfl
theorem Try.cellsMss : Try.prog.cellsOf 24 = 1 := by kernel_rfl
theorem Try.bytesMs : Try.prog.bytesOf 23 = 32 := by kernel_rfl
theorem Try.cellsSt : Try.prog.cellsOf 47 = 6 := by kernel_rfl
theorem Try.bytesSt : Try.prog.bytesOf 47 = 64 := by kernel_rfl
theorem msg_of {H : Type} {enc : TypeId × Value → H} {W : World} (n : Nat) (cs : List Value) (y : DataW H × List MemPlace) (h : DataW.trod enc Try.prog W 0 (fun _ => true) true n 23 cs = some y) (hz : ∀ m ∈ y.1.weights Try.prog 23, m ≤ reachBytes) : ∃ x : MsT, True ∧ ∀ b o, (∀ j x', cs[j]? = some x' → W.cell? ⟨b, o + j, none⟩ = some x') → msE W b o x := by
  obtain ⟨xs, m, _, hx, hl, hxl, hf⟩ := DataW.trod_struct Try.underlying23 h
  rw [Try.cellsMs] at hl
  obtain ⟨c0, c1, c2, rfl⟩ := list3 hl
  obtain ⟨x0, x1, x2, rfl⟩ := list3 (l := xs) hxl
  obtain ⟨z0, q0, _⟩ := DataW.trod_int Try.underlying3 (hf 0 _ rfl)
  obtain ⟨z1, q1, _⟩ := DataW.trod_int Try.underlying3 (hf 1 _ rfl)
  obtain ⟨z2, q2, _⟩ := DataW.trod_string Try.underlying9 (hf 2 _ rfl)
  simp [Try.cells3', Try.cells9'] at q0 q1 q2
  subst q0 q1 q2
  exact ⟨⟨z0, z1, z2⟩, trivial, fun b o hc => ⟨hc 0 _ rfl, hc 1 _ rfl, hc 2 _ rfl⟩⟩
theorem step_of {H : Type} {enc : TypeId × Value → H} {W : World} (n : Nat) (cs : List Value) (y : DataW H × List MemPlace) (h : DataW.trod enc Try.prog W 0 (fun _ => true) true n 47 cs = some y) (hz : ∀ m ∈ y.1.weights Try.prog 47, m ≤ reachBytes) : ∃ x : StL, (Lit.int .i64 x.n).wf = true ∧ ∀ b o, (∀ j x', cs[j]? = some x' → W.cell? ⟨b, o + j, none⟩ = some x') → ∃ u, stE W (fun b => b < W.heap.size) b o x u := by
  obtain ⟨xs, m, _, hx, hl, hxl, hf⟩ := DataW.trod_struct Try.underlying47 h
  rw [Try.cellsSt] at hl
  obtain ⟨c0, c1, c2, c3, c4, c5, rfl⟩ := list6 hl
  obtain ⟨x0, x1, x2, x3, x4, x5, rfl⟩ := list6 (l := xs) hxl
  obtain ⟨z0, q0, _⟩ := DataW.trod_int Try.underlying3 (hf 0 _ rfl)
  obtain ⟨z1, q1, _⟩ := DataW.trod_int Try.underlying3 (hf 1 _ rfl)
  obtain ⟨z3, q3, _, wf3⟩ := DataW.trod_int Try.underlying3 (hf 3 _ rfl)
  obtain ⟨z4, q4, _⟩ := DataW.trod_int Try.underlying3 (hf 4 _ rfl)
  obtain ⟨z5, q5, _⟩ := DataW.trod_int Try.underlying3 (hf 5 _ rfl)
  have g2 : DataW.trod enc Try.prog W 0 (fun _ => true) true m 24 (([c0, c1, c2, c3, c4, c5].drop 2).take (Try.prog.cellsOf 24)) = [x0, x1, x2, x3, x4, x5][2]? := hf 2 _ rfl
  rw [Try.cellsMss] at g2
  have g2' : DataW.trod enc Try.prog W 0 (fun _ => true) true m 24 [c2] = some x2 := g2
  clear g2
  simp [Try.cells3'] at q0 q1 q3 q4 q5
  subst q0 q1 q3 q4 q5
  obtain ⟨tl, ht, _, _, _⟩ := row_of Try.underlying24 Try.cellsMs Try.bytesMs (by decide) (msE W) (fun _ => True) msg_of g2' (fun k hk => hz k (by
    rw [hx]
    simp only [DataW.weights, Try.underlying47]
    exact DataW.weights_mem_each (j := 2) rfl rfl k hk))
  exact ⟨⟨z0, z1, tl, z3, z4, z5⟩, wf3, fun b o hc => ⟨c2, hc 0 _ rfl, hc 1 _ rfl, hc 2 _ rfl, hc 3 _ rfl, hc 4 _ rfl, hc 5 _ rfl, ht⟩⟩
theorem steps_of {H : Type} {enc : TypeId × Value → H} {W : World} {v : Value} {d : DataW H} {p : List MemPlace} (h : DataW.Trod enc Try.prog W 0 (fun _ => true) true 40 v d p) (hv : v.cells.toList = [v]) (hz : ∀ m ∈ d.weights Try.prog 40, m ≤ reachBytes) :
    ∃ l : List StL, StsAt W (fun b => b < W.heap.size) v l ∧ l.length ≤ maxLen ∧ ∀ x ∈ l, (Lit.int .i64 x.n).wf = true := by
  obtain ⟨fuel, hf⟩ := h
  rw [hv] at hf
  obtain ⟨l, h1, _, h3, h4⟩ := row_of Try.underlying40 Try.cellsSt Try.bytesSt (by decide) (fun b o t => ∃ u, stE W (fun b => b < W.heap.size) b o t u) (fun x => (Lit.int .i64 x.n).wf = true) step_of hf hz
  exact ⟨l, h1, h4, h3⟩
end Go.Proofs.Ytfcobhgjkibdgaa
