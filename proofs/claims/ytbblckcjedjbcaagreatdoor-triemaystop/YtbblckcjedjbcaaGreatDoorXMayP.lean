/-
  TrieMayStop: a trie that is turned while it is ranged.
-/
import Derived.Test.YtbblckcjedjbcaaGreatDoorXAtD
import Derived.Test.YtbblckcjedjbcaaGreatDoorXRangeB
namespace Go.Proofs.YtbblckcjedjbcaaGreatDoor
open Go.RowKit Go.Maps
set_option linter.unusedVariables false
set_option linter.unusedSimpArgs false

/-- A trie as it lies. -/
structure TrX where
  y : Lay
  D : List Way
  σ : Option Nat
  τ : Int → Value
  hs : List He
def TrX.F (t : TrX) (k : Nat) : Prop := Tf t.y t.D t.σ t.τ k
def TrX.At (t : TrX) (w : World) (B : Nat) : Prop := TrieAt w B t.y t.D t.σ t.τ t.hs
structure TxE (w w' : World) (t t' : TrX) : Prop where
  chg : Chg w w' t.F
  new : ∀ k, t'.F k → t.F k ∨ w.heap.size ≤ k
theorem TxE.same {w w' : World} (t : TrX) (hb : Below w.heap.size w w') : TxE w w' t t := ⟨Chg.of_below hb _, fun k h => .inl h⟩
theorem TrX.At.below {t : TrX} {w w' : World} {B : Nat} (h : t.At w B) (hb : Below w.heap.size w w') : t.At w' B := TrieAt.below h hb
/-- A range's records. -/
def BkS (w : World) (k : Nat) : Prop := ∃ o, w.heap[k]? = some o ∧ isBk o = true
theorem bk_cells {w : World} {k : Nat} {cs : Array Value} {t : TypeId} {fr : Nat × Nat} (h : w.heap[k]? = some (.cells cs t fr)) : ¬ BkS w k := by
  rintro ⟨o, h1, h2⟩
  rw [h] at h1
  cases h1
  cases h2
theorem bk_map {w : World} {k : Nat} {es : Array MapEntry} {c : Nat} (h : w.heap[k]? = some (.map es c)) : ¬ BkS w k := by
  rintro ⟨o, h1, h2⟩
  rw [h] at h1
  cases h1
  cases h2
theorem TrX.At.nobk {t : TrX} {w : World} {B : Nat} (h : t.At w B) {k : Nat} (hk : t.F k) : ¬ BkS w k := by
  rcases hk with (⟨p, hp, rfl⟩ | ⟨p, hp, e⟩ | ⟨p, hp, e⟩) | (e | ⟨s, e⟩)
  · obtain ⟨cur, ty, h1, _⟩ := TrieAt.tr h |>.kβ hp
    exact bk_cells h1
  · obtain ⟨es, c, h1⟩ := (TrieAt.tr h).kμ hp e
    exact bk_map h1
  · obtain ⟨cur, h1⟩ := (TrieAt.tr h).kρ hp e
    exact bk_cells h1
  · obtain ⟨es, c, h1⟩ := (TrieAt.ses h).kσ e
    exact bk_map h1
  · obtain ⟨cur, h1⟩ := (TrieAt.ses h).kτ e
    exact bk_cells h1
theorem TrX.At.outH {t : TrX} {w : World} {B : Nat} (h : t.At w B) {k : Nat} (hk : t.F k) : k < w.heap.size ∧ ∀ x ∈ t.hs, x.b ≠ k := by
  have hT : TrieAt w B t.y t.D t.σ t.τ t.hs := h
  refine ⟨?_, fun x hx e => ?_⟩
  · rcases hk with hk | hk
    · exact hT.tr.lt (.inl hk)
    · exact hT.ses.lt hk
  · subst e
    have hd := hT.tr.held x hx
    rcases hk with (⟨p, hp, e⟩ | ⟨p, hp, e⟩ | ⟨p, hp, e⟩) | hk
    · exact hT.tr.hβ hp hd e.symm
    · exact hT.tr.hμ hp hd e rfl
    · exact hT.tr.hρ hp hd e rfl
    · exact Go.Proofs.YtbblckcjedjbcaaGreatDoor.apart hT.tr hT.ses hT.sρ hT.sμ hk (.inr ⟨x, hx, rfl⟩)
/-- All but S, and the range's records, is as it was. -/
def Cb (S : Nat → Prop) (V W : World) : Prop := Chg V W (fun k => S k ∨ BkS V k)
theorem Cb.refl (S : Nat → Prop) (V : World) : Cb S V V := Chg.refl _ _
theorem Cb.of_chg {S : Nat → Prop} {V W : World} (h : Chg V W S) : Cb S V W := h.mono (fun k _ e => .inl e)
theorem Cb.of_below {S : Nat → Prop} {V W : World} (h : Below V.heap.size V W) : Cb S V W := Cb.of_chg (Chg.of_below h _)
theorem Cb.mono {S T : Nat → Prop} {V W : World} (h : Cb S V W) (hs : ∀ k, S k → T k) : Cb T V W := Chg.mono h (fun k _ e => e.imp (hs k) id)
theorem Cb.cells {S : Nat → Prop} {V W : World} (h : Cb S V W) {k : Nat} {cs : Array Value} {t : TypeId} {fr : Nat × Nat} (hk : V.heap[k]? = some (.cells cs t fr)) (hs : ¬ S k) : W.heap[k]? = some (.cells cs t fr) := by
  rw [Chg.block h k (lt_of_blk hk) (fun e => e.elim hs (bk_cells hk))]
  exact hk
theorem Cb.kp {S : Nat → Prop} {V W : World} (h : Cb S V W) : Kp S V W := ⟨Chg.size h, fun k cs t fr hk hs => h.cells hk hs⟩
theorem Cb.fresh {S T : Nat → Prop} {A B C : World} (h : Cb S A B) (k : Cb T B C) (hT : ∀ x, T x → S x ∨ A.heap.size ≤ x) : Cb S A C := by
  refine ⟨(Chg.os k).trans (Chg.os h), (Chg.tape k).trans (Chg.tape h), (Chg.output k).trans (Chg.output h), Nat.le_trans (Chg.size h) (Chg.size k), fun i hi hs => ?_⟩
  have h1 := Chg.block h i hi hs
  rw [Chg.block k i (Nat.lt_of_lt_of_le hi (Chg.size h)) (fun e => ?_)]
  · exact h1
  · rcases e with e | ⟨o, e1, e2⟩
    · rcases hT i e with e | e
      · exact hs (.inl e)
      · omega
    · rw [h1] at e1
      exact hs (.inr ⟨o, e1, e2⟩)
theorem Cb.trans {S : Nat → Prop} {A B C : World} (h : Cb S A B) (k : Cb S B C) : Cb S A C := h.fresh k (fun _ e => .inl e)
theorem Cb.grown {S : Nat → Prop} {V W W' : World} {row : Option Nat} {B : Nat} (h : Cb S V W) (hg : W.grownBy W' row) (hr : ∀ r, row = some r → B ≤ r ∧ ∃ o : Obj, W.heap[r]? = some o ∧ isBk o = true) : Cb S V W' := by
  refine h.fresh (T := fun _ => False) ((Chg.grown hg).mono (fun k _ e => ?_)) (fun _ e => e.elim)
  exact .inr (hr k e).2
theorem TrX.At.cb {t : TrX} {V W : World} {B : Nat} {S : Nat → Prop} (h : t.At V B) (hc : Cb S V W) (hF : ∀ k, t.F k → ¬ S k) (hH : ∀ x ∈ t.hs, ¬ S x.b) : t.At W B :=
  TrieAt.chg h hc (fun k hk e => e.elim (hF k hk) (h.nobk hk)) (fun x hx e => e.elim (hH x hx) (bk_cells ((TrieAt.tr h).held x hx)))
set_option maxHeartbeats 1600000 in
theorem dropX (t : TrX) (w : World) (B : Nat) (s i : Int) (h : t.At w B) (hg : Ground w) (hlen : t.hs.length ≤ 1000) (hwf : wfI s) :
    Calls Tryz.prog 19 #[ndV B, .int .i64 s, .int .i64 i] w fun e w' => (∃ c, e = .returned (.int .i64 c)) ∧ ∃ t' : TrX, t'.At w' B ∧ TxE w w' t t' ∧ t'.hs.length ≤ t.hs.length + 1 := by
  obtain ⟨y, D, σ, τ, hs⟩ := t
  have hT : TrieAt w B y D σ τ hs := h
  have hlen : hs.length ≤ 1000 := hlen
  by_cases h0 : hasH (ofS hs s) s i = true
  · obtain ⟨x, hx, h1, h2⟩ := hasH_iff.1 h0
    have hx' := (ofS_mem.1 hx).1
    obtain ⟨sb, rfl⟩ : ∃ sb, σ = some sb := by
      rcases hT.ses.map with ⟨_, h3⟩ | ⟨b, _, h3, _⟩
      · rw [h3] at hx'; cases hx'
      · exact ⟨b, h3⟩
    refine (drop_ok w B y D sb τ hs s i x hT hg hlen hwf hx' h1 h2).mono ?_
    rintro e w' ⟨he, y', D', τ', hT', hE⟩
    refine ⟨⟨_, he⟩, ⟨y', D', some sb, τ', delH s i hs⟩, hT', ⟨hE.chg, hE.new⟩, ?_⟩
    show (delH s i hs).length ≤ hs.length + 1
    have : (delH s i hs).length ≤ hs.length := List.length_filter_le _ _
    omega
  · refine (drop_no w B y D σ τ hs s i hT hlen hwf (by simpa using h0)).mono ?_
    rintro e w' ⟨he, hb⟩
    exact ⟨⟨_, he⟩, ⟨y, D, σ, τ, hs⟩, hT.below hb, TxE.same _ hb, Nat.le_succ _⟩
set_option maxHeartbeats 1600000 in
theorem addX (t : TrX) (w : World) (B : Nat) (s i : Int) (p : ByteArray) (k f : Int) (h : t.At w B) (hg : Ground w) (hlen : t.hs.length ≤ 1000) (hwf : wfI s) :
    Calls Tryz.prog 16 #[ndV B, .int .i64 s, watV i p k f] w fun e w' => (∃ c, e = .returned (.int .i64 c)) ∧ ∃ t' : TrX, t'.At w' B ∧ TxE w w' t t' ∧ t'.hs.length ≤ t.hs.length + 1 := by
  obtain ⟨y, D, σ, τ, hs⟩ := t
  have hT : TrieAt w B y D σ τ hs := h
  have hlen : hs.length ≤ 1000 := hlen
  by_cases h0 : mayL (ofS hs s) false s i p k f = 0
  · have hend : ∀ (e : Ending) (w' : World), (e = .returned (.int .i64 0) ∧ Added w B y D σ τ hs s i p k f w') → (∃ c, e = .returned (.int .i64 c)) ∧ ∃ t' : TrX, t'.At w' B ∧ TxE w w' ⟨y, D, σ, τ, hs⟩ t' ∧ t'.hs.length ≤ hs.length + 1 := by
      rintro e w' ⟨he, b, y', D', σ', τ', hb, hT', hE⟩
      refine ⟨⟨_, he⟩, ⟨y', D', σ', τ', _⟩, hT', ⟨hE.chg, hE.new⟩, ?_⟩
      show (insH _ hs).length ≤ _
      rw [ins_len]
      exact Nat.le_refl _
    cases σ with
    | none => exact (addT_none w B y D τ hs s i p k f hT hg hlen hwf h0).mono hend
    | some sb => exact (addT_some w B y D sb τ hs s i p k f hT hg hlen hwf h0).mono hend
  · refine (add_no w B y D σ τ hs s i p k f hT hg hlen hwf h0).mono ?_
    rintro e w' ⟨he, hb⟩
    exact ⟨⟨_, he⟩, ⟨y, D, σ, τ, hs⟩, hT.below hb, TxE.same _ hb, Nat.le_succ _⟩

/-- How the blocks lie behind one another: the trie's own from lo on, below z2. -/
structure LieX (z0 lo z2 z4 z5 : Nat) : Prop where
  a : z0 + 2 ≤ lo
  b : lo ≤ z2
  c : z2 < z4
  d : z4 + 1 < z5
/-- What no round turns. -/
structure SX (z0 z2 z4 z5 B : Nat) (k : Int) (wv : Value) (P : List He) (W : World) : Prop where
  kb : W.heap[z0]? = some (.cells #[.int .i64 k] 3 (0, 0))
  rb : W.heap[z0 + 1]? = some (.cells #[.bool false] 4 (0, 0))
  gb : W.heap[z2]? = some (.cells #[ndV B] 26 (0, 0))
  ws : W.heap[z4]? = some (.cells #[wv] 29 (0, 0))
  al : W.heap[z4 + 1]? = some (.cells #[ndV B] 26 (0, 0))
  sq : W.heap[z5]? = some (.cells #[.func (.func 42) #[] #[.pointer (some ⟨z4 + 1, 0, none⟩)]] 51 (0, 0))
  row : W.ownsRow z2 36 3 wv P.length (scs P)
  rlt : ∀ x, wv.ownBlock = some x → x < z4
theorem SX.kp {z0 lo z2 z4 z5 B : Nat} {k : Int} {wv : Value} {P : List He} {V W : World} {S : Nat → Prop} (h : SX z0 z2 z4 z5 B k wv P V) (o : LieX z0 lo z2 z4 z5) (hk : Kp S V W) (hS : ∀ x, S x → (lo ≤ x ∧ x < z2) ∨ z5 < x) : SX z0 z2 z4 z5 B k wv P W := by
  obtain ⟨o1, o2, o3, o4⟩ := o
  refine ⟨hk.cells _ _ _ _ h.kb (fun s => ?_), hk.cells _ _ _ _ h.rb (fun s => ?_), hk.cells _ _ _ _ h.gb (fun s => ?_), hk.cells _ _ _ _ h.ws (fun s => ?_), hk.cells _ _ _ _ h.al (fun s => ?_), hk.cells _ _ _ _ h.sq (fun s => ?_), owns_kp h.row hk (fun x e s => ?_), h.rlt⟩
  all_goals
    have := hS _ s
    first
      | omega
      | (have h1 := h.rlt x e
         have h2 := (h.row.lt x e).1
         omega)
theorem SX.kpn {z0 z2 z4 z5 B : Nat} {k : Int} {wv : Value} {P : List He} {V W : World} (h : SX z0 z2 z4 z5 B k wv P V) (hk : Kp NoB V W) : SX z0 z2 z4 z5 B k wv P W :=
  ⟨hk.cells _ _ _ _ h.kb id, hk.cells _ _ _ _ h.rb id, hk.cells _ _ _ _ h.gb id, hk.cells _ _ _ _ h.ws id, hk.cells _ _ _ _ h.al id, hk.cells _ _ _ _ h.sq id, owns_kp h.row hk (fun _ _ s => s), h.rlt⟩
/-- Between two rounds of the outer range: t0 the trie as it was, t as it is. -/
structure StX (w : World) (m z5 B : Nat) (t0 : TrX) (V0 : World) (q : Nat) (t : TrX) (W : World) : Prop where
  cb : Cb (fun x => t0.F x ∨ x = z5 + 1) V0 W
  at' : W.heap[z5 + 1]? = some (.cells #[.int .i64 q] 3 (0, 0))
  tr : t.At W B
  few : t.hs.length ≤ 60 + 2 * q
  new : ∀ k, t.F k → t0.F k ∨ V0.heap.size ≤ k
  z : q = 0 → t = t0
  le : q ≤ m
  bel : Below w.heap.size w W
theorem bel_bk {w W W' : World} {row : Option Nat} {B : Nat} {p : Obj → Prop} (h : Below w.heap.size w W) (hB : w.heap.size ≤ B) (hg : W.grownBy W' row) (hr : ∀ r, row = some r → B ≤ r ∧ ∃ o : Obj, W.heap[r]? = some o ∧ p o) : Below w.heap.size w W' :=
  h.trans ⟨hg.os, hg.tape, hg.output, hg.size, fun k hk' => hg.block k (Nat.lt_of_lt_of_le hk' h.size) (fun e => by have := (hr k e.symm).1; omega)⟩
theorem StX.cbn {w : World} {m z5 B : Nat} {t0 t : TrX} {V0 : World} {q : Nat} {W W' : World} (h : StX w m z5 B t0 V0 q t W) (hk : Cb NoB W W') (hb : Below w.heap.size w W') : StX w m z5 B t0 V0 q t W' :=
  ⟨h.cb.fresh hk (fun _ e => e.elim), hk.cells h.at' id, h.tr.cb hk (fun _ _ e => e) (fun _ _ e => e), h.few, h.new, h.z, h.le, hb⟩
theorem StX.grown {w : World} {m z5 B : Nat} {t0 t : TrX} {V0 : World} {q : Nat} {W W' : World} {row : Option Nat} {B' : Nat} (h : StX w m z5 B t0 V0 q t W) (hB : w.heap.size ≤ B') (hg : W.grownBy W' row) (hr : ∀ r, row = some r → B' ≤ r ∧ ∃ o : Obj, W.heap[r]? = some o ∧ isBk o = true) : StX w m z5 B t0 V0 q t W' :=
  h.cbn ((Cb.refl _ _).grown hg hr) (bel_bk h.bel hB hg hr)
theorem StX.below {w : World} {m z5 B : Nat} {t0 t : TrX} {V0 : World} {q : Nat} {W W' : World} (h : StX w m z5 B t0 V0 q t W) (hb : Below W.heap.size W W') : StX w m z5 B t0 V0 q t W' :=
  h.cbn (Cb.of_below hb) (xtrans2 h.bel hb)
end Go.Proofs.YtbblckcjedjbcaaGreatDoor
