import Derived.Test.YtdjfeomdiljaeaaGreatDoorXBase
import Derived.Test.YtdjfeomdiljaeaaGreatDoorWText
import Derived.Test.YtdjfeomdiljaeaaGreatDoorWReadText
import Derived.WalkLawsBesides
namespace Go.Proofs.YtdjfeomdiljaeaaGreatDoor
open Go.RowKit
set_option linter.unusedVariables false
set_option linter.unusedSimpArgs false

abbrev PN : List PanicEntry := [{ v := .iface 28 (.int .i64 30), recovered := false }]
/-- A check's end: it returns if all is as it must be, and gives up if not. -/
def CK (ok : Prop) (w : World) (e : Ending) (w' : World) : Prop := (e = .returned (.tuple #[]) ∧ ok ∨ e = .panicked PN ∧ ¬ ok) ∧ Below w.heap.size w w'
theorem CK.congr {ok ok' : Prop} {w : World} {e : Ending} {w' : World} (h : CK ok w e w') (hh : ok ↔ ok') : CK ok' w e w' :=
  ⟨h.1.imp (fun h => ⟨h.1, hh.1 h.2⟩) (fun h => ⟨h.1, fun g => h.2 (hh.2 g)⟩), h.2⟩
theorem must_ck (b : Bool) (w : World) : Calls Tryz.prog 70 #[.bool b] w fun e w' => (e = .returned (.tuple #[]) ∧ b = true ∨ e = .panicked PN ∧ ¬ b = true) ∧ w' = w := by
  cases b
  · go_enter Tryz.func70, Tryz.ntmps70
    go_wp2_with fail
    exact ⟨rfl, .inr ⟨rfl, by decide⟩, rfl⟩
  · go_enter Tryz.func70, Tryz.ntmps70
    go_wp2_with fail
    exact bodyPost_end (results_none rfl _ _ _) rfl ⟨.inl ⟨rfl, trivial⟩, rfl⟩
theorem number_ck (v low : Int) (w : World) : Calls Tryz.prog 67 #[.int .i64 v, .int .i64 low] w (CK (low ≤ v ∧ v ≤ 2147483647) w) := by
  obtain ⟨ok, hok⟩ : ∃ ok : Prop, (low ≤ v ∧ v ≤ 2147483647) = ok := ⟨_, rfl⟩
  have HOK : Hid (ok = (low ≤ v ∧ v ≤ 2147483647)) := hok.symm
  rw [hok]
  clear hok
  go_enter Tryz.func67, Tryz.ntmps67
  by_cases h1 : low ≤ v
  · by_cases h2 : v ≤ 2147483647
    · go_wp2_with fail
      refine (must_ck _ _).mono ?_
      rintro e w1 ⟨⟨rfl, _⟩ | ⟨rfl, h⟩, rfl⟩
      · go_wp2_with fail
        exact bodyPost_end (results_none rfl _ _ _) rfl ⟨.inl ⟨rfl, by rw [HOK.out]; exact ⟨h1, h2⟩⟩, Below.refl _ _⟩
      · exact absurd rfl h
    · go_wp2_with fail
      refine (must_ck _ _).mono ?_
      rintro e w1 ⟨⟨rfl, h⟩ | ⟨rfl, _⟩, rfl⟩
      · exact absurd h (by decide)
      · exact ⟨rfl, .inr ⟨rfl, by rw [HOK.out]; omega⟩, Below.refl _ _⟩
  · go_wp2_with fail
    refine (must_ck _ _).mono ?_
    rintro e w1 ⟨⟨rfl, h⟩ | ⟨rfl, _⟩, rfl⟩
    · exact absurd h (by decide)
    · exact ⟨rfl, .inr ⟨rfl, by rw [HOK.out]; omega⟩, Below.refl _ _⟩
end Go.Proofs.YtdjfeomdiljaeaaGreatDoor
namespace Go.Proofs.YtdjfeomdiljaeaaGreatDoor
open Go.RowKit
set_option linter.unusedVariables false
set_option linter.unusedSimpArgs false

/-- A row of cells that came in, k a piece. -/
def RowC (w : World) (a : Option Addr) (k : Nat) (css : List (List Value)) : Prop := css.length ≤ maxLen ∧ (css = [] ∨ ∃ b o, a = some ⟨b, o, none⟩ ∧ b < w.heap.size ∧ ∀ (j t : Nat) (cs : List Value) (v : Value), css[j]? = some cs → cs[t]? = some v → w.cell? ⟨b, o + (j * k + t), none⟩ = some v)
theorem RowC.below {w w' : World} {a : Option Addr} {k : Nat} {css : List (List Value)} (h : RowC w a k css) (hb : Below w.heap.size w w') : RowC w' a k css := by
  refine ⟨h.1, ?_⟩
  rcases h.2 with h | ⟨b, o, e, hl, hc⟩
  · exact .inl h
  · exact .inr ⟨b, o, e, Nat.lt_of_lt_of_le hl hb.size, fun j t cs v hx hv => by rw [hb.cell (p := ⟨b, o + (j * k + t), none⟩) hl]; exact hc j t cs v hx hv⟩
theorem RowC.at {w : World} {a : Option Addr} {k j : Nat} {css : List (List Value)} {cs : List Value} (h : RowC w a k css) (hx : css[j]? = some cs) : ∃ b o, a = some ⟨b, o, none⟩ ∧ ∀ (t : Nat) (v : Value), cs[t]? = some v → w.cell? ⟨b, o + (j * k + t), none⟩ = some v := by
  rcases h.2 with h | ⟨b, o, e, hl, hc⟩
  · rw [h] at hx
    cases hx
  · exact ⟨b, o, e, fun t v hv => hc j t cs v hx hv⟩
theorem RowC.len {E : Type} {f : E → List Value} {w : World} {a : Option Addr} {k : Nat} {L : List E} (h : RowC w a k (L.map f)) : (L.length : Int) ≤ 9223372036854775807 := by
  have h1 := h.1
  rw [List.length_map] at h1
  unfold maxLen at h1
  omega
abbrev strV (s : ByteArray) : Value := .string s
abbrev intV (n : Int) : Value := .int .i64 n
abbrev strC (s : ByteArray) : List Value := [.string s]
abbrev intC (n : Int) : List Value := [.int .i64 n]
structure OpN where
  K : Int
  p : ByteArray
  d : ByteArray
  v : Int
  fl : Int
abbrev OpN.cl (e : OpN) : List Value := [.int .i64 e.K, .string e.p, .string e.d, .int .i64 e.v, .int .i64 e.fl]
abbrev OpN.val (e : OpN) : Value := .agg #[.int .i64 e.K, .string e.p, .string e.d, .int .i64 e.v, .int .i64 e.fl]
structure WaN where
  i : Int
  p : ByteArray
  k : Int
  f : Int
abbrev WaN.cl (e : WaN) : List Value := [.int .i64 e.i, .string e.p, .int .i64 e.k, .int .i64 e.f]
abbrev WaN.val (e : WaN) : Value := .agg #[.int .i64 e.i, .string e.p, .int .i64 e.k, .int .i64 e.f]
structure SeN where
  p : ByteArray
  d : ByteArray
  v : Int
abbrev SeN.cl (e : SeN) : List Value := [.string e.p, .string e.d, .int .i64 e.v]
abbrev SeN.val (e : SeN) : Value := .agg #[.string e.p, .string e.d, .int .i64 e.v]
structure EnN where
  st : Int
  vw : Int
  K : Int
  se : Int
  rq : Int
  opsA : Option Addr
  opsC : Nat
  ops : List OpN
abbrev EnN.cl (e : EnN) : List Value := [.int .i64 e.st, .int .i64 e.vw, .int .i64 e.K, .int .i64 e.se, .int .i64 e.rq, .slice e.opsA e.ops.length e.opsC]
abbrev EnN.val (e : EnN) : Value := .agg #[.int .i64 e.st, .int .i64 e.vw, .int .i64 e.K, .int .i64 e.se, .int .i64 e.rq, .slice e.opsA e.ops.length e.opsC]
/-- Its lists lie where it says. -/
structure EnN.At (w : World) (e : EnN) : Prop where
  ops : RowC w e.opsA 5 (e.ops.map OpN.cl)
  opsL : e.ops.length ≤ e.opsC
theorem EnN.At.below {w w' : World} {e : EnN} (h : e.At w) (hb : Below w.heap.size w w') : e.At w' := ⟨h.ops.below hb, h.opsL⟩
structure RsN where
  p : ByteArray
  d : ByteArray
  v : Int
  md : Int
  ch : Int
  ow : Int
  kidsA : Option Addr
  kidsC : Nat
  kids : List ByteArray
abbrev RsN.cl (e : RsN) : List Value := [.string e.p, .string e.d, .int .i64 e.v, .int .i64 e.md, .int .i64 e.ch, .int .i64 e.ow, .slice e.kidsA e.kids.length e.kidsC]
abbrev RsN.val (e : RsN) : Value := .agg #[.string e.p, .string e.d, .int .i64 e.v, .int .i64 e.md, .int .i64 e.ch, .int .i64 e.ow, .slice e.kidsA e.kids.length e.kidsC]
/-- Its lists lie where it says. -/
structure RsN.At (w : World) (e : RsN) : Prop where
  kids : RowC w e.kidsA 1 (e.kids.map strC)
  kidsL : e.kids.length ≤ e.kidsC
theorem RsN.At.below {w w' : World} {e : RsN} (h : e.At w) (hb : Below w.heap.size w w') : e.At w' := ⟨h.kids.below hb, h.kidsL⟩
structure ShN where
  st : Int
  p : ByteArray
  k : Int
  nodesA : Option Addr
  nodesC : Nat
  nodes : List SeN
abbrev ShN.cl (e : ShN) : List Value := [.int .i64 e.st, .string e.p, .int .i64 e.k, .slice e.nodesA e.nodes.length e.nodesC]
abbrev ShN.val (e : ShN) : Value := .agg #[.int .i64 e.st, .string e.p, .int .i64 e.k, .slice e.nodesA e.nodes.length e.nodesC]
/-- Its lists lie where it says. -/
structure ShN.At (w : World) (e : ShN) : Prop where
  nodes : RowC w e.nodesA 3 (e.nodes.map SeN.cl)
  nodesL : e.nodes.length ≤ e.nodesC
theorem ShN.At.below {w w' : World} {e : ShN} (h : e.At w) (hb : Below w.heap.size w w') : e.At w' := ⟨h.nodes.below hb, h.nodesL⟩
structure PaN where
  i : Int
  st : Int
  p : ByteArray
  k : Int
  nodesA : Option Addr
  nodesC : Nat
  nodes : List SeN
abbrev PaN.cl (e : PaN) : List Value := [.int .i64 e.i, .int .i64 e.st, .string e.p, .int .i64 e.k, .slice e.nodesA e.nodes.length e.nodesC]
abbrev PaN.val (e : PaN) : Value := .agg #[.int .i64 e.i, .int .i64 e.st, .string e.p, .int .i64 e.k, .slice e.nodesA e.nodes.length e.nodesC]
/-- Its lists lie where it says. -/
structure PaN.At (w : World) (e : PaN) : Prop where
  nodes : RowC w e.nodesA 3 (e.nodes.map SeN.cl)
  nodesL : e.nodes.length ≤ e.nodesC
theorem PaN.At.below {w w' : World} {e : PaN} (h : e.At w) (hb : Below w.heap.size w w') : e.At w' := ⟨h.nodes.below hb, h.nodesL⟩
structure TgN where
  K : Int
  p : ByteArray
  d : ByteArray
  v : Int
  tagsA : Option Addr
  tagsC : Nat
  tags : List Int
abbrev TgN.cl (e : TgN) : List Value := [.int .i64 e.K, .string e.p, .string e.d, .int .i64 e.v, .slice e.tagsA e.tags.length e.tagsC]
abbrev TgN.val (e : TgN) : Value := .agg #[.int .i64 e.K, .string e.p, .string e.d, .int .i64 e.v, .slice e.tagsA e.tags.length e.tagsC]
/-- Its lists lie where it says. -/
structure TgN.At (w : World) (e : TgN) : Prop where
  tags : RowC w e.tagsA 1 (e.tags.map intC)
  tagsL : e.tags.length ≤ e.tagsC
theorem TgN.At.below {w w' : World} {e : TgN} (h : e.At w) (hb : Below w.heap.size w w') : e.At w' := ⟨h.tags.below hb, h.tagsL⟩
structure ItN where
  st : Int
  af : Int
  m : Bool
  chsA : Option Addr
  chsC : Nat
  chs : List TgN
  partsA : Option Addr
  partsC : Nat
  parts : List PaN
abbrev ItN.cl (e : ItN) : List Value := [.int .i64 e.st, .int .i64 e.af, .bool e.m, .slice e.chsA e.chs.length e.chsC, .slice e.partsA e.parts.length e.partsC]
abbrev ItN.val (e : ItN) : Value := .agg #[.int .i64 e.st, .int .i64 e.af, .bool e.m, .slice e.chsA e.chs.length e.chsC, .slice e.partsA e.parts.length e.partsC]
/-- Its lists lie where it says. -/
structure ItN.At (w : World) (e : ItN) : Prop where
  chs : RowC w e.chsA 5 (e.chs.map TgN.cl)
  chsS : ∀ x ∈ e.chs, x.At w
  chsL : e.chs.length ≤ e.chsC
  parts : RowC w e.partsA 5 (e.parts.map PaN.cl)
  partsS : ∀ x ∈ e.parts, x.At w
  partsL : e.parts.length ≤ e.partsC
theorem ItN.At.below {w w' : World} {e : ItN} (h : e.At w) (hb : Below w.heap.size w w') : e.At w' := ⟨h.chs.below hb, fun x hx => (h.chsS x hx).below hb, h.chsL, h.parts.below hb, fun x hx => (h.partsS x hx).below hb, h.partsL⟩
structure NoN where
  K : Int
  num : Int
  pri : Int
  bak : Int
  se : Int
  cn : Int
  rq : Int
  st : Int
  of : Int
  cm : Int
  cd : Int
  opsA : Option Addr
  opsC : Nat
  ops : List OpN
  entsA : Option Addr
  entsC : Nat
  ents : List EnN
  rst : Int
  rcd : Int
  rat : Int
  resA : Option Addr
  resC : Nat
  res : List RsN
  wasA : Option Addr
  wasC : Nat
  was : List WaN
  partsA : Option Addr
  partsC : Nat
  parts : List PaN
  itemsA : Option Addr
  itemsC : Nat
  items : List ItN
  state : ByteArray
abbrev NoN.cl (e : NoN) : List Value := [.int .i64 e.K, .int .i64 e.num, .int .i64 e.pri, .int .i64 e.bak, .int .i64 e.se, .int .i64 e.cn, .int .i64 e.rq, .int .i64 e.st, .int .i64 e.of, .int .i64 e.cm, .int .i64 e.cd, .slice e.opsA e.ops.length e.opsC, .slice e.entsA e.ents.length e.entsC, .int .i64 e.rst, .int .i64 e.rcd, .int .i64 e.rat, .slice e.resA e.res.length e.resC, .slice e.wasA e.was.length e.wasC, .slice e.partsA e.parts.length e.partsC, .slice e.itemsA e.items.length e.itemsC, .string e.state]
abbrev NoN.val (e : NoN) : Value := .agg #[.int .i64 e.K, .int .i64 e.num, .int .i64 e.pri, .int .i64 e.bak, .int .i64 e.se, .int .i64 e.cn, .int .i64 e.rq, .int .i64 e.st, .int .i64 e.of, .int .i64 e.cm, .int .i64 e.cd, .slice e.opsA e.ops.length e.opsC, .slice e.entsA e.ents.length e.entsC, .int .i64 e.rst, .int .i64 e.rcd, .int .i64 e.rat, .slice e.resA e.res.length e.resC, .slice e.wasA e.was.length e.wasC, .slice e.partsA e.parts.length e.partsC, .slice e.itemsA e.items.length e.itemsC, .string e.state]
/-- Its lists lie where it says. -/
structure NoN.At (w : World) (e : NoN) : Prop where
  ops : RowC w e.opsA 5 (e.ops.map OpN.cl)
  opsL : e.ops.length ≤ e.opsC
  ents : RowC w e.entsA 6 (e.ents.map EnN.cl)
  entsS : ∀ x ∈ e.ents, x.At w
  entsL : e.ents.length ≤ e.entsC
  res : RowC w e.resA 7 (e.res.map RsN.cl)
  resS : ∀ x ∈ e.res, x.At w
  resL : e.res.length ≤ e.resC
  was : RowC w e.wasA 4 (e.was.map WaN.cl)
  wasL : e.was.length ≤ e.wasC
  parts : RowC w e.partsA 5 (e.parts.map PaN.cl)
  partsS : ∀ x ∈ e.parts, x.At w
  partsL : e.parts.length ≤ e.partsC
  items : RowC w e.itemsA 5 (e.items.map ItN.cl)
  itemsS : ∀ x ∈ e.items, x.At w
  itemsL : e.items.length ≤ e.itemsC
theorem NoN.At.below {w w' : World} {e : NoN} (h : e.At w) (hb : Below w.heap.size w w') : e.At w' := ⟨h.ops.below hb, h.opsL, h.ents.below hb, fun x hx => (h.entsS x hx).below hb, h.entsL, h.res.below hb, fun x hx => (h.resS x hx).below hb, h.resL, h.was.below hb, h.wasL, h.parts.below hb, fun x hx => (h.partsS x hx).below hb, h.partsL, h.items.below hb, fun x hx => (h.itemsS x hx).below hb, h.itemsL⟩
theorem RowC.at1 {w : World} {a : Option Addr} {j : Nat} {css : List (List Value)} {x0 : Value} (h : RowC w a 1 css) (hx : css[j]? = some [x0]) : ∃ b o, a = some ⟨b, o, none⟩ ∧ w.cell? ⟨b, o + j, none⟩ = some x0 := by
  obtain ⟨b, o, e, hc⟩ := h.at hx
  have h0 := hc 0 x0 rfl
  rw [show o + (j * 1 + 0) = o + j by omega] at h0
  exact ⟨b, o, e, h0⟩
theorem RowC.at3 {w : World} {a : Option Addr} {j : Nat} {css : List (List Value)} {x0 x1 x2 : Value} (h : RowC w a 3 css) (hx : css[j]? = some [x0, x1, x2]) : ∃ b o, a = some ⟨b, o, none⟩ ∧ w.cell? ⟨b, o + j * 3, none⟩ = some x0 ∧ w.cell? ⟨b, o + j * 3 + 1, none⟩ = some x1 ∧ w.cell? ⟨b, o + j * 3 + 2, none⟩ = some x2 := by
  obtain ⟨b, o, e, hc⟩ := h.at hx
  have h0 := hc 0 x0 rfl
  rw [show o + (j * 3 + 0) = o + j * 3 by omega] at h0
  have h1 := hc 1 x1 rfl
  rw [show o + (j * 3 + 1) = o + j * 3 + 1 by omega] at h1
  have h2 := hc 2 x2 rfl
  rw [show o + (j * 3 + 2) = o + j * 3 + 2 by omega] at h2
  exact ⟨b, o, e, h0, h1, h2⟩
theorem RowC.at4 {w : World} {a : Option Addr} {j : Nat} {css : List (List Value)} {x0 x1 x2 x3 : Value} (h : RowC w a 4 css) (hx : css[j]? = some [x0, x1, x2, x3]) : ∃ b o, a = some ⟨b, o, none⟩ ∧ w.cell? ⟨b, o + j * 4, none⟩ = some x0 ∧ w.cell? ⟨b, o + j * 4 + 1, none⟩ = some x1 ∧ w.cell? ⟨b, o + j * 4 + 2, none⟩ = some x2 ∧ w.cell? ⟨b, o + j * 4 + 3, none⟩ = some x3 := by
  obtain ⟨b, o, e, hc⟩ := h.at hx
  have h0 := hc 0 x0 rfl
  rw [show o + (j * 4 + 0) = o + j * 4 by omega] at h0
  have h1 := hc 1 x1 rfl
  rw [show o + (j * 4 + 1) = o + j * 4 + 1 by omega] at h1
  have h2 := hc 2 x2 rfl
  rw [show o + (j * 4 + 2) = o + j * 4 + 2 by omega] at h2
  have h3 := hc 3 x3 rfl
  rw [show o + (j * 4 + 3) = o + j * 4 + 3 by omega] at h3
  exact ⟨b, o, e, h0, h1, h2, h3⟩
theorem RowC.at5 {w : World} {a : Option Addr} {j : Nat} {css : List (List Value)} {x0 x1 x2 x3 x4 : Value} (h : RowC w a 5 css) (hx : css[j]? = some [x0, x1, x2, x3, x4]) : ∃ b o, a = some ⟨b, o, none⟩ ∧ w.cell? ⟨b, o + j * 5, none⟩ = some x0 ∧ w.cell? ⟨b, o + j * 5 + 1, none⟩ = some x1 ∧ w.cell? ⟨b, o + j * 5 + 2, none⟩ = some x2 ∧ w.cell? ⟨b, o + j * 5 + 3, none⟩ = some x3 ∧ w.cell? ⟨b, o + j * 5 + 4, none⟩ = some x4 := by
  obtain ⟨b, o, e, hc⟩ := h.at hx
  have h0 := hc 0 x0 rfl
  rw [show o + (j * 5 + 0) = o + j * 5 by omega] at h0
  have h1 := hc 1 x1 rfl
  rw [show o + (j * 5 + 1) = o + j * 5 + 1 by omega] at h1
  have h2 := hc 2 x2 rfl
  rw [show o + (j * 5 + 2) = o + j * 5 + 2 by omega] at h2
  have h3 := hc 3 x3 rfl
  rw [show o + (j * 5 + 3) = o + j * 5 + 3 by omega] at h3
  have h4 := hc 4 x4 rfl
  rw [show o + (j * 5 + 4) = o + j * 5 + 4 by omega] at h4
  exact ⟨b, o, e, h0, h1, h2, h3, h4⟩
theorem RowC.at6 {w : World} {a : Option Addr} {j : Nat} {css : List (List Value)} {x0 x1 x2 x3 x4 x5 : Value} (h : RowC w a 6 css) (hx : css[j]? = some [x0, x1, x2, x3, x4, x5]) : ∃ b o, a = some ⟨b, o, none⟩ ∧ w.cell? ⟨b, o + j * 6, none⟩ = some x0 ∧ w.cell? ⟨b, o + j * 6 + 1, none⟩ = some x1 ∧ w.cell? ⟨b, o + j * 6 + 2, none⟩ = some x2 ∧ w.cell? ⟨b, o + j * 6 + 3, none⟩ = some x3 ∧ w.cell? ⟨b, o + j * 6 + 4, none⟩ = some x4 ∧ w.cell? ⟨b, o + j * 6 + 5, none⟩ = some x5 := by
  obtain ⟨b, o, e, hc⟩ := h.at hx
  have h0 := hc 0 x0 rfl
  rw [show o + (j * 6 + 0) = o + j * 6 by omega] at h0
  have h1 := hc 1 x1 rfl
  rw [show o + (j * 6 + 1) = o + j * 6 + 1 by omega] at h1
  have h2 := hc 2 x2 rfl
  rw [show o + (j * 6 + 2) = o + j * 6 + 2 by omega] at h2
  have h3 := hc 3 x3 rfl
  rw [show o + (j * 6 + 3) = o + j * 6 + 3 by omega] at h3
  have h4 := hc 4 x4 rfl
  rw [show o + (j * 6 + 4) = o + j * 6 + 4 by omega] at h4
  have h5 := hc 5 x5 rfl
  rw [show o + (j * 6 + 5) = o + j * 6 + 5 by omega] at h5
  exact ⟨b, o, e, h0, h1, h2, h3, h4, h5⟩
theorem RowC.at7 {w : World} {a : Option Addr} {j : Nat} {css : List (List Value)} {x0 x1 x2 x3 x4 x5 x6 : Value} (h : RowC w a 7 css) (hx : css[j]? = some [x0, x1, x2, x3, x4, x5, x6]) : ∃ b o, a = some ⟨b, o, none⟩ ∧ w.cell? ⟨b, o + j * 7, none⟩ = some x0 ∧ w.cell? ⟨b, o + j * 7 + 1, none⟩ = some x1 ∧ w.cell? ⟨b, o + j * 7 + 2, none⟩ = some x2 ∧ w.cell? ⟨b, o + j * 7 + 3, none⟩ = some x3 ∧ w.cell? ⟨b, o + j * 7 + 4, none⟩ = some x4 ∧ w.cell? ⟨b, o + j * 7 + 5, none⟩ = some x5 ∧ w.cell? ⟨b, o + j * 7 + 6, none⟩ = some x6 := by
  obtain ⟨b, o, e, hc⟩ := h.at hx
  have h0 := hc 0 x0 rfl
  rw [show o + (j * 7 + 0) = o + j * 7 by omega] at h0
  have h1 := hc 1 x1 rfl
  rw [show o + (j * 7 + 1) = o + j * 7 + 1 by omega] at h1
  have h2 := hc 2 x2 rfl
  rw [show o + (j * 7 + 2) = o + j * 7 + 2 by omega] at h2
  have h3 := hc 3 x3 rfl
  rw [show o + (j * 7 + 3) = o + j * 7 + 3 by omega] at h3
  have h4 := hc 4 x4 rfl
  rw [show o + (j * 7 + 4) = o + j * 7 + 4 by omega] at h4
  have h5 := hc 5 x5 rfl
  rw [show o + (j * 7 + 5) = o + j * 7 + 5 by omega] at h5
  have h6 := hc 6 x6 rfl
  rw [show o + (j * 7 + 6) = o + j * 7 + 6 by omega] at h6
  exact ⟨b, o, e, h0, h1, h2, h3, h4, h5, h6⟩
abbrev PaN.sh (e : PaN) : ShN := ⟨e.st, e.p, e.k, e.nodesA, e.nodesC, e.nodes⟩
theorem PaN.At.sh {w : World} {e : PaN} (h : e.At w) : e.sh.At w := ⟨h.nodes, h.nodesL⟩
theorem map_at {E : Type} {f : E → List Value} {L : List E} {j : Nat} {x : E} (h : L[j]? = some x) : (L.map f)[j]? = some (f x) := by rw [List.getElem?_map, h]; rfl
end Go.Proofs.YtdjfeomdiljaeaaGreatDoor
