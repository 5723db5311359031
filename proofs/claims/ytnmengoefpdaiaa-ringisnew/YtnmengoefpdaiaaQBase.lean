/-
  queue: what lies in memory.
-/
import Derived.Test.YtnmengoefpdaiaaRBase
namespace Go.Proofs.Ytnmengoefpdaiaa.I
open Go.RowKit
set_option linter.unusedVariables false
set_option linter.unusedSimpArgs false

/-- A node as it was seen. -/
structure SeT where
  p : ByteArray
  d : ByteArray
  v : Int
/-- A change with its tags. -/
structure TgT where
  k : Int
  p : ByteArray
  d : ByteArray
  v : Int
  tags : List Int
/-- A part. -/
structure PaT where
  id : Int
  st : Int
  p : ByteArray
  k : Int
  nodes : List SeT
/-- An item. -/
structure ItT where
  st : Int
  af : Int
  mark : Bool
  cs : List TgT
  ps : List PaT
/-- A list lies in memory, in a block of S. -/
def RowAt {α : Type} (w : World) (S : Nat → Prop) (sz : Nat) (E : Nat → Nat → α → Prop) (v : Value) (l : List α) : Prop :=
  ∃ a c, v = .slice a l.length c ∧ l.length ≤ c ∧ (a = none → c = 0) ∧ (l = [] ∨ ∃ b o, a = some ⟨b, o, none⟩ ∧ S b ∧ b < w.heap.size ∧ ∀ i x, l[i]? = some x → E b (o + i * sz) x)
theorem RowAt.map {α : Type} {w w' : World} {S S' : Nat → Prop} {sz : Nat} {E E' : Nat → Nat → α → Prop} {v : Value} {l : List α} (h : RowAt w S sz E v l) (hs : w.heap.size ≤ w'.heap.size) (hS : ∀ b, b < w.heap.size → S b → S' b) (hE : ∀ b o x, b < w.heap.size → S b → E b o x → E' b o x) : RowAt w' S' sz E' v l := by
  obtain ⟨a, c, hv, hc, hn, hr⟩ := h
  refine ⟨a, c, hv, hc, hn, ?_⟩
  rcases hr with h | ⟨b, o, ha, hb, hlt, hx⟩
  · exact .inl h
  · exact .inr ⟨b, o, ha, hS b hlt hb, Nat.lt_of_lt_of_le hlt hs, fun i x hi => hE _ _ _ hlt hb (hx i x hi)⟩
theorem RowAt.nil {α : Type} (w : World) (S : Nat → Prop) (sz : Nat) (E : Nat → Nat → α → Prop) : RowAt w S sz E (.slice none 0 0) [] := ⟨none, 0, rfl, Nat.le_refl _, fun _ => rfl, .inl rfl⟩
/-- w' has all that w has in the blocks of S. -/
structure Kp (w w' : World) (S : Nat → Prop) : Prop where
  size : w.heap.size ≤ w'.heap.size
  block : ∀ b, b < w.heap.size → S b → w'.heap[b]? = w.heap[b]?
theorem Kp.of_below {w w' : World} (h : Below w.heap.size w w') (S : Nat → Prop) : Kp w w' S := ⟨h.size, fun b hb _ => h.block b hb⟩
theorem Kp.of_chg {w w' : World} {T S : Nat → Prop} (h : Chg w w' T) (hs : ∀ b, b < w.heap.size → S b → ¬ T b) : Kp w w' S := ⟨h.size, fun b hb hS => h.block b hb (hs b hb hS)⟩
theorem Kp.mono {w w' : World} {S T : Nat → Prop} (h : Kp w w' S) (hs : ∀ b, b < w.heap.size → T b → S b) : Kp w w' T := ⟨h.size, fun b hb hT => h.block b hb (hs b hb hT)⟩
theorem Kp.cell {w w' : World} {S : Nat → Prop} (h : Kp w w' S) {b o : Nat} (hb : b < w.heap.size) (hS : S b) {v : Value} (hc : w.cell? ⟨b, o, none⟩ = some v) : w'.cell? ⟨b, o, none⟩ = some v := by
  rw [World.cell?_of_block (w := w) (h.block b hb hS)]
  exact hc
def inE (w : World) (b o : Nat) (x : Int) : Prop := w.cell? ⟨b, o, none⟩ = some (.int .i64 x)
structure seE (w : World) (b o : Nat) (s : SeT) : Prop where
  p : w.cell? ⟨b, o, none⟩ = some (.string s.p)
  d : w.cell? ⟨b, o + 1, none⟩ = some (.string s.d)
  v : w.cell? ⟨b, o + 2, none⟩ = some (.int .i64 s.v)
structure tgE (w : World) (S : Nat → Prop) (b o : Nat) (t : TgT) (u : Value) : Prop where
  k : w.cell? ⟨b, o, none⟩ = some (.int .i64 t.k)
  p : w.cell? ⟨b, o + 1, none⟩ = some (.string t.p)
  d : w.cell? ⟨b, o + 2, none⟩ = some (.string t.d)
  v : w.cell? ⟨b, o + 3, none⟩ = some (.int .i64 t.v)
  cu : w.cell? ⟨b, o + 4, none⟩ = some u
  tags : RowAt w S 1 (inE w) u t.tags
structure paE (w : World) (S : Nat → Prop) (b o : Nat) (t : PaT) (u : Value) : Prop where
  id : w.cell? ⟨b, o, none⟩ = some (.int .i64 t.id)
  st : w.cell? ⟨b, o + 1, none⟩ = some (.int .i64 t.st)
  p : w.cell? ⟨b, o + 2, none⟩ = some (.string t.p)
  k : w.cell? ⟨b, o + 3, none⟩ = some (.int .i64 t.k)
  cu : w.cell? ⟨b, o + 4, none⟩ = some u
  nodes : RowAt w S 3 (seE w) u t.nodes
abbrev IntsAt (w : World) (S : Nat → Prop) (v : Value) (l : List Int) : Prop := RowAt w S 1 (inE w) v l
abbrev SesAt (w : World) (S : Nat → Prop) (v : Value) (l : List SeT) : Prop := RowAt w S 3 (seE w) v l
abbrev TgsAt (w : World) (S : Nat → Prop) (v : Value) (l : List TgT) : Prop := RowAt w S 5 (fun b o t => ∃ u, tgE w S b o t u) v l
abbrev PasAt (w : World) (S : Nat → Prop) (v : Value) (l : List PaT) : Prop := RowAt w S 5 (fun b o t => ∃ u, paE w S b o t u) v l
theorem seE.keep {w w' : World} {S : Nat → Prop} {b o : Nat} {s : SeT} (h : seE w b o s) (hk : Kp w w' S) (hb : b < w.heap.size) (hS : S b) : seE w' b o s := ⟨hk.cell hb hS h.p, hk.cell hb hS h.d, hk.cell hb hS h.v⟩
theorem IntsAt.keep {w w' : World} {S : Nat → Prop} {v : Value} {l : List Int} (h : IntsAt w S v l) (hk : Kp w w' S) : IntsAt w' S v l := h.map hk.size (fun _ _ h => h) (fun b o x hb hS hx => hk.cell hb hS hx)
theorem SesAt.keep {w w' : World} {S : Nat → Prop} {v : Value} {l : List SeT} (h : SesAt w S v l) (hk : Kp w w' S) : SesAt w' S v l := h.map hk.size (fun _ _ h => h) (fun b o x hb hS hx => hx.keep hk hb hS)
theorem tgE.keep {w w' : World} {S : Nat → Prop} {b o : Nat} {t : TgT} {u : Value} (h : tgE w S b o t u) (hk : Kp w w' S) (hc : ∀ j v, w.cell? ⟨b, j, none⟩ = some v → o ≤ j → j < o + 5 → w'.cell? ⟨b, j, none⟩ = some v) : tgE w' S b o t u :=
  ⟨hc _ _ h.k (by omega) (by omega), hc _ _ h.p (by omega) (by omega), hc _ _ h.d (by omega) (by omega), hc _ _ h.v (by omega) (by omega), hc _ _ h.cu (by omega) (by omega), IntsAt.keep h.tags hk⟩
theorem paE.keep {w w' : World} {S : Nat → Prop} {b o : Nat} {t : PaT} {u : Value} (h : paE w S b o t u) (hk : Kp w w' S) (hc : ∀ j v, w.cell? ⟨b, j, none⟩ = some v → o ≤ j → j < o + 5 → w'.cell? ⟨b, j, none⟩ = some v) : paE w' S b o t u :=
  ⟨hc _ _ h.id (by omega) (by omega), hc _ _ h.st (by omega) (by omega), hc _ _ h.p (by omega) (by omega), hc _ _ h.k (by omega) (by omega), hc _ _ h.cu (by omega) (by omega), SesAt.keep h.nodes hk⟩
theorem TgsAt.keep {w w' : World} {S : Nat → Prop} {v : Value} {l : List TgT} (h : TgsAt w S v l) (hk : Kp w w' S) : TgsAt w' S v l := h.map hk.size (fun _ _ h => h) (fun b o x hb hS ⟨u, hx⟩ => ⟨u, hx.keep hk (fun j v hj _ _ => hk.cell hb hS hj)⟩)
theorem PasAt.keep {w w' : World} {S : Nat → Prop} {v : Value} {l : List PaT} (h : PasAt w S v l) (hk : Kp w w' S) : PasAt w' S v l := h.map hk.size (fun _ _ h => h) (fun b o x hb hS ⟨u, hx⟩ => ⟨u, hx.keep hk (fun j v hj _ _ => hk.cell hb hS hj)⟩)
theorem IntsAt.mono {w : World} {S T : Nat → Prop} {v : Value} {l : List Int} (h : IntsAt w S v l) (hs : ∀ b, b < w.heap.size → S b → T b) : IntsAt w T v l := h.map (Nat.le_refl _) hs (fun _ _ _ _ _ h => h)
theorem SesAt.mono {w : World} {S T : Nat → Prop} {v : Value} {l : List SeT} (h : SesAt w S v l) (hs : ∀ b, b < w.heap.size → S b → T b) : SesAt w T v l := h.map (Nat.le_refl _) hs (fun _ _ _ _ _ h => h)
theorem tgE.mono {w : World} {S T : Nat → Prop} {b o : Nat} {t : TgT} {u : Value} (h : tgE w S b o t u) (hs : ∀ b, b < w.heap.size → S b → T b) : tgE w T b o t u := ⟨h.k, h.p, h.d, h.v, h.cu, IntsAt.mono h.tags hs⟩
theorem paE.mono {w : World} {S T : Nat → Prop} {b o : Nat} {t : PaT} {u : Value} (h : paE w S b o t u) (hs : ∀ b, b < w.heap.size → S b → T b) : paE w T b o t u := ⟨h.id, h.st, h.p, h.k, h.cu, SesAt.mono h.nodes hs⟩
theorem TgsAt.mono {w : World} {S T : Nat → Prop} {v : Value} {l : List TgT} (h : TgsAt w S v l) (hs : ∀ b, b < w.heap.size → S b → T b) : TgsAt w T v l := h.map (Nat.le_refl _) hs (fun b o x _ _ ⟨u, hx⟩ => ⟨u, hx.mono hs⟩)
theorem PasAt.mono {w : World} {S T : Nat → Prop} {v : Value} {l : List PaT} (h : PasAt w S v l) (hs : ∀ b, b < w.heap.size → S b → T b) : PasAt w T v l := h.map (Nat.le_refl _) hs (fun b o x _ _ ⟨u, hx⟩ => ⟨u, hx.mono hs⟩)
/-- Sizes that memory allows. -/
abbrev MaxText : Nat := 281474976710656
abbrev MaxRow : Nat := 140737488355328
structure SeT.Small (s : SeT) : Prop where
  p : s.p.size ≤ MaxText
  d : s.d.size ≤ MaxText
structure TgT.Small (t : TgT) : Prop where
  p : t.p.size ≤ MaxText
  d : t.d.size ≤ MaxText
  len : t.tags.length * 8 ≤ MaxRow
structure PaT.Small (t : PaT) : Prop where
  p : t.p.size ≤ MaxText
  len : t.nodes.length * 40 ≤ MaxRow
  each : ∀ s ∈ t.nodes, s.Small
structure TgsSmall (l : List TgT) : Prop where
  len : l.length * 72 ≤ MaxRow
  each : ∀ t ∈ l, t.Small
structure PasSmall (l : List PaT) : Prop where
  len : l.length * 64 ≤ MaxRow
  each : ∀ t ∈ l, t.Small
structure ItT.Small (t : ItT) : Prop where
  cs : TgsSmall t.cs
  ps : PasSmall t.ps
end Go.Proofs.Ytnmengoefpdaiaa.I
