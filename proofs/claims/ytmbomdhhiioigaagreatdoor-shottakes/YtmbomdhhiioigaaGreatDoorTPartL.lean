/-
  tree: scripts that came in (written by mkscript.py).
-/
import Derived.Test.YtmbomdhhiioigaaGreatDoorTLaidB
import Derived.Test.YtmbomdhhiioigaaGreatDoorTPlayQ
import Derived.Test.YtmbomdhhiioigaaGreatDoorTSnd
import Derived.Deep.RegionHeld3
import Derived.Test.YtmbomdhhiioigaaGreatDoorTTwin
import Derived.BigQuiet
import Derived.Deep.QuietTactic
import Derived.Test.YtmbomdhhiioigaaGreatDoorTPart
namespace Go.Proofs.YtmbomdhhiioigaaGreatDoor
open Go.RowKit Go.ChangeShapes Go.WideShapes Go.ChangeAt
set_option linter.unusedSimpArgs false

/-- A step of a script. -/
structure StT where
  k : Int
  s : Int
  st : Int
  a : Option Addr
  c : Nat
  os : List OpT
  pl : ByteArray
  nn : Int
abbrev StT.cells (x : StT) : List Value := [.int .i64 x.k, .int .i64 x.s, .int .i64 x.st, .slice x.a x.os.length x.c, .string x.pl, .int .i64 x.nn]
theorem opsAt_mono {w : World} {B B' : Nat} {a : Option Addr} {os : List OpT} (h : OpsAt w B a os) (hB : B ≤ B') : OpsAt w B' a os := fun i o hi => by
  obtain ⟨b, f, h1, h2, h3⟩ := h i o hi
  exact ⟨b, f, h1, Nat.lt_of_lt_of_le h2 hB, h3⟩
theorem OpsAt.below {w w' : World} {base : Nat} {a : Option Addr} {os : List OpT} (h : OpsAt w base a os) (hb : Below base w w') : OpsAt w' base a os := by
  intro i o hi
  obtain ⟨b, f, h1, h2, h3⟩ := h i o hi
  exact ⟨b, f, h1, h2, fun j x hx => by rw [hb.cell (p := ⟨b, f + i * 5 + j, none⟩) h2]; exact h3 j x hx⟩
theorem list_of {α : Type} {P : Nat → α → Prop} : ∀ n, (∀ i, i < n → ∃ x, P i x) → ∃ l : List α, l.length = n ∧ ∀ (j : Nat) (x : α), l[j]? = some x → P j x
  | 0, _ => ⟨[], rfl, fun j x h => by simp at h⟩
  | n + 1, h => by
    obtain ⟨l, hl, hp⟩ := list_of n (fun i hi => h i (by omega))
    obtain ⟨x, hx⟩ := h n (by omega)
    refine ⟨l ++ [x], by simp [hl], fun j y hy => ?_⟩
    by_cases hj : j < l.length
    · rw [List.getElem?_append_left hj] at hy
      exact hp j y hy
    · rw [List.getElem?_append_right (by omega)] at hy
      have hj0 : j - l.length = 0 := by
        rcases Nat.eq_zero_or_pos (j - l.length) with g | g
        · exact g
        · rw [List.getElem?_eq_none (by simp; omega)] at hy
          cases hy
      rw [hj0] at hy
      have : j = n := by omega
      subst this
      have e : x = y := by simpa using hy
      subst e
      exact hx
theorem weights_all {H : Type} {P : Program} {e : TypeId} {d : DataW H} {n : Nat} : ∀ {l : List (DataW H)}, d ∈ l → n ∈ d.weights P e → n ∈ DataW.weightsAll P e l
  | x :: r, hd, hn => by
    simp only [DataW.weightsAll, List.mem_append]
    rcases List.mem_cons.1 hd with rfl | hd
    · exact .inl hn
    · exact .inr (weights_all hd hn)
theorem addr_add' (b o j : Nat) : (⟨b, o, none⟩ : Addr).add j = ⟨b, o + j, none⟩ := by unfold Addr.add; split <;> simp_all
theorem cellsOp : Tryz.prog.cellsOf 83 = 5 := by kernel_rfl
theorem bytesOp : Tryz.prog.bytesOf 83 = 56 := by kernel_rfl
theorem op_of {H : Type} {enc : TypeId × Value → H} {W : World} {n : Nat} {cs : List Value} {y : DataW H × List MemPlace} (h : DataW.trod enc Tryz.prog W 0 (fun _ => true) true n 83 cs = some y) : ∃ o : OpT, cs = o.cells ∧ o.Ok := by
  obtain ⟨xs, m, _, hx, hl, hxl, hf⟩ := DataW.trod_struct Tryz.underlying83 h
  rw [cellsOp] at hl
  obtain ⟨c0, c1, c2, c3, c4, rfl⟩ := list5 hl
  obtain ⟨x0, x1, x2, x3, x4, rfl⟩ := list5 (l := xs) hxl
  obtain ⟨z0, q0, _⟩ := DataW.trod_int Tryz.underlying3 (hf 0 _ rfl)
  obtain ⟨z1, q1, _⟩ := DataW.trod_string Tryz.underlying9 (hf 1 _ rfl)
  obtain ⟨z2, q2, _⟩ := DataW.trod_string Tryz.underlying9 (hf 2 _ rfl)
  obtain ⟨z3, q3, _⟩ := DataW.trod_int Tryz.underlying3 (hf 3 _ rfl)
  obtain ⟨z4, q4, _, hw4⟩ := DataW.trod_int Tryz.underlying3 (hf 4 _ rfl)
  simp [cells3', cells9'] at q0 q1 q2 q3 q4
  subst q0 q1 q2 q3 q4
  exact ⟨⟨z0, z1, z2, z3, z4⟩, rfl, by simp only [Lit.wf, IntKind.min, IntKind.max, IntKind.signed, IntKind.bits, Bool.and_eq_true, decide_eq_true_eq, if_pos] at hw4; have := hw4.1; have := hw4.2; exact ⟨show -9223372036854775808 ≤ z4 by omega, show z4 < 9223372036854775808 by omega⟩⟩
theorem ops_of {H : Type} {enc : TypeId × Value → H} {W : World} {n : Nat} {v : Value} {y : DataW H × List MemPlace} (h : DataW.trod enc Tryz.prog W 0 (fun _ => true) true n 42 [v] = some y) (hz : ∀ m ∈ y.1.weights Tryz.prog 42, m ≤ reachBytes) :
    ∃ a c os, v = .slice a os.length c ∧ OpsAt W W.heap.size a os ∧ os.length ≤ 2513169434846 ∧ ∀ o ∈ os, o.Ok := by
  rcases Go.Deep.open_slice Tryz.underlying42 h with ⟨hcs, _⟩ | ⟨x, len, cap, m, n', D, Pl, hcs, _, hl, hm, hmm, hxx, hx⟩
  · have hv : v = .slice none 0 0 := by simpa using hcs
    subst hv
    exact ⟨none, 0, [], rfl, fun i o hi => by simp at hi, Nat.zero_le _, fun o ho => by cases ho⟩
  · have hv : v = .slice (some x) len cap := by simpa using hcs
    subst hv
    have hmc : m = cap := by simpa using hmm
    subst hmc
    have hw : len * 56 ≤ reachBytes := by
      refine Nat.le_trans ?_ (hz ((((List.range len).map D).length + ((List.range (m - len)).map fun j => D (len + j)).length) * Tryz.prog.bytesOf 83) (by rw [hxx]; simp [DataW.weights, Tryz.underlying42]))
      rw [bytesOp]
      simp
      omega
    have each : ∀ i, i < len → ∃ o : OpT, o.Ok ∧ ∀ j x', o.cells[j]? = some x' → W.cell? ((x.add (i * 5)).add j) = some x' := by
      intro i hi
      obtain ⟨cs', h1, h2⟩ := hx i (by omega)
      obtain ⟨o, rfl, hok⟩ := op_of h2
      rw [cellsOp] at h1
      obtain ⟨_, _, hc⟩ := World.cells?_some h1
      exact ⟨o, hok, fun j x' hj => by rw [hc j (by have := (List.getElem?_eq_some_iff.1 hj).1; simpa using this)]; exact hj⟩
    obtain ⟨l, hll, hls⟩ := list_of len each
    subst hll
    refine ⟨some x, m, l, rfl, fun i o hi => ?_, ?_, fun o ho => ?_⟩
    · have hi0 : 0 < l.length := by have := (List.getElem?_eq_some_iff.1 hi).1; omega
      have hc0 := (hls 0 l[0] (List.getElem?_eq_getElem hi0)).2 0 _ rfl
      obtain ⟨b, f, rfl, hb⟩ : ∃ b f, x = ⟨b, f, none⟩ ∧ b < W.heap.size := by
        obtain ⟨b, f, spot⟩ := x
        have hs : spot = none := by simpa [Addr.add] using World.cell?_spot hc0
        subst hs
        exact ⟨b, f, rfl, by have := World.block_lt_of_cell? _ _ hc0; simpa [Addr.add] using this⟩
      refine ⟨b, f, rfl, hb, fun j x' hj => ?_⟩
      have := (hls i o hi).2 j x' hj
      rw [addr_add', addr_add'] at this
      exact this
    · unfold reachBytes at hw
      omega
    · obtain ⟨i, hi⟩ := List.mem_iff_getElem?.1 ho
      exact (hls i o hi).1
end Go.Proofs.YtmbomdhhiioigaaGreatDoor
namespace Go.Proofs.YtmbomdhhiioigaaGreatDoor
open Go.RowKit Go.ChangeShapes Go.WideShapes Go.ChangeAt
set_option linter.unusedSimpArgs false

structure TuT where
  s : Int
  en : Bool
  a : Option Addr
  c : Nat
  os : List OpT
abbrev TuT.cells (x : TuT) : List Value := [.int .i64 x.s, .bool x.en, .slice x.a x.os.length x.c]
def Turns (W : World) (a : Option Addr) (l : List TuT) : Prop :=
  ∀ i x, l[i]? = some x → ∃ b f, a = some ⟨b, f, none⟩ ∧ b < W.heap.size ∧ (∀ j v, x.cells[j]? = some v → W.cell? ⟨b, f + i * 3 + j, none⟩ = some v) ∧ OpsAt W W.heap.size x.a x.os ∧ (∀ o ∈ x.os, o.Ok)
theorem cellsTurn : Tryz.prog.cellsOf 44 = 3 := by kernel_rfl
theorem list3 {α : Type} {l : List α} (h : l.length = 3) : ∃ a b c, l = [a, b, c] := by
  match l, h with
  | [a, b, c], _ => exact ⟨a, b, c, rfl⟩
theorem turn_of {H : Type} {enc : TypeId × Value → H} {W : World} {n : Nat} {cs : List Value} {y : DataW H × List MemPlace} (h : DataW.trod enc Tryz.prog W 0 (fun _ => true) true n 44 cs = some y) (hz : ∀ m ∈ y.1.weights Tryz.prog 44, m ≤ reachBytes) :
    ∃ x : TuT, cs = x.cells ∧ OpsAt W W.heap.size x.a x.os ∧ (∀ o ∈ x.os, o.Ok) := by
  obtain ⟨xs, m, _, hx, hl, hxl, hf⟩ := DataW.trod_struct Tryz.underlying44 h
  rw [cellsTurn] at hl
  obtain ⟨c0, c1, c2, rfl⟩ := list3 hl
  obtain ⟨x0, x1, x2, rfl⟩ := list3 (l := xs) hxl
  obtain ⟨z0, q0, _⟩ := DataW.trod_int Tryz.underlying3 (hf 0 _ rfl)
  obtain ⟨z1, q1, _⟩ := DataW.trod_bool Tryz.underlying4 (hf 1 _ rfl)
  have g2 : DataW.trod enc Tryz.prog W 0 (fun _ => true) true m 42 (([c0, c1, c2].drop 2).take (Tryz.prog.cellsOf 42)) = [x0, x1, x2][2]? := hf 2 _ rfl
  rw [cellsOps] at g2
  have g2' : DataW.trod enc Tryz.prog W 0 (fun _ => true) true m 42 [c2] = some x2 := g2
  clear g2
  simp [cells3', cells4'] at q0 q1
  subst q0 q1
  obtain ⟨a, c, os, rfl, ho, _, hol⟩ := ops_of g2' (fun k hk => hz k (by
    rw [hx]
    simp only [DataW.weights, Tryz.underlying44]
    exact DataW.weights_mem_each (j := 2) rfl rfl k hk))
  exact ⟨⟨z0, z1, a, c, os⟩, rfl, ho, hol⟩
theorem turns_of {H : Type} {enc : TypeId × Value → H} {W : World} {a : Option Addr} {len cap : Nat} {d : DataW H} {p : List MemPlace}
    (h : DataW.Trod enc Tryz.prog W 0 (fun _ => true) true 22 (.slice a len cap) d p) (hz : ∀ m ∈ d.weights Tryz.prog 22, m ≤ reachBytes) :
    ∃ l : List TuT, len = l.length ∧ Turns W a l ∧ l.length ≤ maxLen := by
  obtain ⟨fuel, hf⟩ := h
  rcases Go.Deep.open_slice Tryz.underlying22 hf with ⟨hcs, _⟩ | ⟨x, len', cap', m, n', D, Pl, hcs, _, hl, hm, hmm, hxx, hx⟩
  · simp [Value.cells] at hcs
    obtain ⟨rfl, rfl, rfl⟩ := hcs
    exact ⟨[], rfl, fun i o hi => by simp at hi, Nat.zero_le _⟩
  · simp [Value.cells] at hcs
    obtain ⟨rfl, rfl, rfl⟩ := hcs
    have hmc : m = cap := by simpa using hmm
    subst hmc
    simp only [Prod.mk.injEq] at hxx
    have each : ∀ i, i < len → ∃ s : TuT, OpsAt W W.heap.size s.a s.os ∧ (∀ o ∈ s.os, o.Ok) ∧ ∀ j x', s.cells[j]? = some x' → W.cell? ((x.add (i * 3)).add j) = some x' := by
      intro i hi
      obtain ⟨cs', h1, h2⟩ := hx i (by omega)
      obtain ⟨s, rfl, ho, hol⟩ := turn_of h2 (fun k hk => hz k (by
        rw [hxx.1]
        simp only [DataW.weights, Tryz.underlying22, List.mem_cons, List.mem_append]
        exact .inr (.inl (weights_all (List.mem_map.2 ⟨i, List.mem_range.2 hi, rfl⟩) hk))))
      rw [cellsTurn] at h1
      obtain ⟨_, _, hc⟩ := World.cells?_some h1
      exact ⟨s, ho, hol, fun j x' hj => by rw [hc j (by have := (List.getElem?_eq_some_iff.1 hj).1; simpa using this)]; exact hj⟩
    obtain ⟨l, hll, hls⟩ := list_of len each
    subst hll
    refine ⟨l, rfl, fun i s hi => ?_, Nat.le_trans hl hm⟩
    have hi0 : 0 < l.length := by have := (List.getElem?_eq_some_iff.1 hi).1; omega
    have hc0 := (hls 0 l[0] (List.getElem?_eq_getElem hi0)).2.2 0 _ rfl
    obtain ⟨b, f, rfl, hb⟩ : ∃ b f, x = ⟨b, f, none⟩ ∧ b < W.heap.size := by
      obtain ⟨b, f, spot⟩ := x
      have hs : spot = none := by simpa [Addr.add] using World.cell?_spot hc0
      subst hs
      exact ⟨b, f, rfl, by have := World.block_lt_of_cell? _ _ hc0; simpa [Addr.add] using this⟩
    obtain ⟨ho, hol, hcc⟩ := hls i s hi
    refine ⟨b, f, rfl, hb, fun j x' hj => ?_, ho, hol⟩
    have := hcc j x' hj
    rw [addr_add', addr_add'] at this
    exact this
end Go.Proofs.YtmbomdhhiioigaaGreatDoor
namespace Go.Proofs.YtmbomdhhiioigaaGreatDoor
open Go.RowKit Go.Maps Go.WideShapes
set_option linter.unusedVariables false
set_option linter.unusedSimpArgs false
attribute [local go_sem ↓] Go.wp_at_zero Go.wp_at_succ

theorem below_drew0 (w : World) : Below w.heap.size w w.drew := ⟨rfl, rfl, rfl, Nat.le_refl _, fun _ _ => rfl⟩
/-- At tb lies a tree with these nodes, behind so many requests. -/
structure TrAt (w : World) (B tb q : Nat) (T : List Nd) : Prop where
  at' : ∃ mb n D, TreeAt w B tb mb n D ∧ Rep D T ∧ n ≤ 1 + 8 * q
  snd : Snd T
theorem TrAt.below {w w' : World} {B tb q : Nat} {T : List Nd} (h : TrAt w B tb q T) (hb : Below w.heap.size w w') : TrAt w' B tb q T := by
  obtain ⟨mb, n, D, h1, h2, h3⟩ := h.at'
  exact ⟨⟨mb, n, D, h1.below hb, h2, h3⟩, h.snd⟩
theorem TrAt.lo {w : World} {B tb q : Nat} {T : List Nd} (h : TrAt w B tb q T) : B ≤ tb := by
  obtain ⟨mb, n, D, h1, _⟩ := h.at'
  exact h1.lo
theorem TrAt.lt {w : World} {B tb q : Nat} {T : List Nd} (h : TrAt w B tb q T) : tb < w.heap.size := by
  obtain ⟨mb, n, D, h1, _⟩ := h.at'
  exact (Array.getElem?_eq_some_iff.1 h1.box).1
theorem TrAt.box {w : World} {B tb q : Nat} {T : List Nd} (h : TrAt w B tb q T) : ∃ v, w.heap[tb]? = some (.cells #[v] 68 (0, 0)) := by
  obtain ⟨mb, n, D, h1, _⟩ := h.at'
  exact ⟨_, h1.box⟩
theorem TrAt.mono {w : World} {B tb q q' : Nat} {T : List Nd} (h : TrAt w B tb q T) (hq : q ≤ q') : TrAt w B tb q' T := by
  obtain ⟨mb, n, D, h1, h2, h3⟩ := h.at'
  exact ⟨⟨mb, n, D, h1, h2, by omega⟩, h.snd⟩
theorem chg_lo {w w' : World} {B tb : Nat} (h : Chg w w' (fun k => k = tb)) (hlo : B ≤ tb) (hB : B ≤ w.heap.size) : Below B w w' := h.below hB (fun k _ e => by rw [show k = tb from e]; exact hlo)
theorem rep_root : Rep rootD [rootN] := by
  have ht : Tidy rootD := by
    have h0 : Tidy (DataW.put (.map [] : DataW Value) (ky pRt) (.held rootN.V)) := Tidy.put (by simp [Tidy]) (ky_lit _) _
    exact h0
  refine ⟨ht, ⟨_, rfl, fun p hp => ?_⟩, fun s => ?_, fun x hx => ?_, by simp⟩
  · obtain rfl := List.mem_singleton.1 hp
    exact ⟨_, rfl⟩
  · constructor
    · intro h
      refine ⟨rootN, List.mem_singleton.2 rfl, ?_⟩
      by_cases e : pRt = s
      · exact e
      · exfalso
        have h1 : Maps.has (DataW.put (.map [] : DataW Value) (ky pRt) (.held rootN.V)) (ky s) = true := h
        rw [has_put_other (fun e' => e (ky_inj e').symm)] at h1
        simp [Maps.has] at h1
    · rintro ⟨x, hx, rfl⟩
      obtain rfl := List.mem_singleton.1 hx
      kernel_rfl
  · obtain rfl := List.mem_singleton.1 hx
    kernel_rfl
theorem new_tr (w : World) : Calls Tryz.prog 7 #[] w fun e w' => ∃ tb, e = .returned (.pointer (some ⟨tb, 0, none⟩)) ∧ TrAt w' w.heap.size tb 0 [rootN] ∧ Below w.heap.size w w' := by
  refine Calls.mono (new_any w) ?_
  rintro e w' ⟨tb, mb, rfl, hT, hb⟩
  exact ⟨tb, rfl, ⟨⟨mb, 1, rootD, hT, rep_root, by omega⟩, Snd.new⟩, hb⟩
theorem play_tr (B tb q : Nat) (T : List Nd) (s st : Int) (a : Option Addr) (c : Nat) (os : List OpT) (w : World) (hg : GroundT w) (hgc : GroundC w) (h : TrAt w B tb q T) (hq : q ≤ 900) (ho : OpsAt w w.heap.size a os) (hok : ∀ o ∈ os, o.Ok) :
    Calls Tryz.prog 13 #[.pointer (some ⟨tb, 0, none⟩), .int .i64 s, .int .i64 st, .slice a os.length c] w fun e w' => ∃ L rv chV, e = .returned (.tuple #[.agg #[.int .i64 st, .int .i64 (playM T s st os).code, .int .i64 (playM T s st os).at', rv], chV]) ∧ L.map RsT.r = (playM T s st os).R ∧ RsAt w' w.heap.size rv L.length L ∧ w'.ownsRow w.heap.size 80 4 chV (playM T s st os).C.length (chCs (playM T s st os).C) ∧ TrAt w' B tb (q + 1) (playM T s st os).T ∧ Chg w w' (fun k => k = tb) := by
  obtain ⟨mb, n, D, h1, h2, h3⟩ := h.at'
  refine Calls.mono (playT_any B tb mb n D T s st a c os w hg hgc h1 h2 h.snd.inv (by omega) ho hok) ?_
  rintro e w' ⟨L, rv, chV, rfl, hE⟩
  obtain ⟨mb', n', D', _, hn', hT', hr'⟩ := hE.tree
  exact ⟨L, rv, chV, rfl, hE.res, hE.row, hE.ch, ⟨⟨mb', n', D', hT', hr', by omega⟩, h.snd.play s st os⟩, hE.chg⟩
def finT (T : List Nd) (s : Int) : List Nd := if s < 1 then T else endT T s
def finC (T : List Nd) (s : Int) : List ChT := if s < 1 then [] else endC T s
theorem Snd.finT {T : List Nd} (h : Snd T) (s : Int) : Snd (finT T s) := by
  unfold Go.Proofs.YtmbomdhhiioigaaGreatDoor.finT
  split
  · exact h
  · exact h.fin (by omega)
set_option maxHeartbeats 3200000 in
theorem end_low {w : World} {tb mb : Nat} (h : w.cell? ⟨tb, 0, none⟩ = some (.map (some mb))) (s : Int) (hs : s < 1) :
    Calls Tryz.prog 11 #[.pointer (some ⟨tb, 0, none⟩), .int .i64 s] w fun e w' => e = .returned (.slice none 0 0) ∧ w' = w := by
  have HN : Hid _ := isNone_at tb (some mb) w h
  clear h
  go_enter Tryz.func11, Tryz.ntmps11
  go_wp2_with (first | (go_at_call 21; refine Calls.mono HN.out ?_; rintro e w1 ⟨rfl, rfl⟩) | fail)
  go_ret
  exact ⟨rfl, rfl⟩
theorem end_tr (B tb q : Nat) (T : List Nd) (s : Int) (w : World) (h : TrAt w B tb q T) (hq : q ≤ 900) :
    Calls Tryz.prog 11 #[.pointer (some ⟨tb, 0, none⟩), .int .i64 s] w fun e w' => ∃ chV, e = .returned chV ∧ w'.ownsRow w.heap.size 80 4 chV (finC T s).length (chCs (finC T s)) ∧ TrAt w' B tb q (finT T s) ∧ Chg w w' (fun k => k = tb) := by
  obtain ⟨mb, n, D, h1, h2, h3⟩ := h.at'
  unfold finT finC
  by_cases hs : s < 1
  · rw [if_pos hs, if_pos hs]
    refine Calls.mono (end_low (cells_1 h1.box) s hs) ?_
    rintro e w' ⟨rfl, rfl⟩
    exact ⟨_, rfl, World.ownsRow_nil _ _ _ _, h, Chg.refl _ _⟩
  · rw [if_neg hs, if_neg hs]
    refine Calls.mono (end_any B tb mb n D T s w h1 h2 h.snd.inv h.snd.ne (by omega) (by omega)) ?_
    rintro e w' ⟨chV, mb', D', rfl, _, hT', hr', hch, hc⟩
    exact ⟨chV, rfl, hch, ⟨⟨mb', n, D', hT', hr', h3⟩, h.snd.fin (by omega)⟩, hc⟩
end Go.Proofs.YtmbomdhhiioigaaGreatDoor
namespace Go.Proofs.YtmbomdhhiioigaaGreatDoor
open Go.RowKit Go.Maps Go.WideShapes
set_option linter.unusedVariables false
set_option linter.unusedSimpArgs false
attribute [local go_sem ↓] Go.wp_at_zero Go.wp_at_succ

end Go.Proofs.YtmbomdhhiioigaaGreatDoor
namespace Go.Proofs.YtmbomdhhiioigaaGreatDoor
open Go.RowKit Go.Maps Go.WideShapes
set_option linter.unusedVariables false
set_option linter.unusedSimpArgs false
attribute [local go_sem ↓] Go.wp_at_zero Go.wp_at_succ

theorem below_dN {B : Nat} {a w : World} (h : Below B a w) (n : Nat) : Below B a (w.drewN n) := ⟨h.os, h.tape, h.output, h.size, h.block⟩
theorem flat_at {α : Type} (f : α → List Value) (n : Nat) (hn : ∀ x, (f x).length = n) : ∀ (l : List α) (q j : Nat) (x : α) (v : Value), l[q]? = some x → (f x)[j]? = some v → (l.flatMap f)[q * n + j]? = some v
  | [], q, j, x, v, h, _ => by simp at h
  | y :: r, 0, j, x, v, h, hv => by
    obtain rfl : y = x := by simpa using h
    have hj := (List.getElem?_eq_some_iff.1 hv).1
    rw [List.flatMap_cons, List.getElem?_append_left (by omega), Nat.zero_mul, Nat.zero_add]
    exact hv
  | y :: r, q + 1, j, x, v, h, hv => by
    rw [List.flatMap_cons, List.getElem?_append_right (by rw [hn, Nat.succ_mul]; omega), hn, show (q + 1) * n + j - n = q * n + j by rw [Nat.succ_mul]; omega]
    exact flat_at f n hn r q j x v (by simpa using h) hv
end Go.Proofs.YtmbomdhhiioigaaGreatDoor
namespace Go.Proofs.YtmbomdhhiioigaaGreatDoor
open Go.RowKit Go.Maps Go.WideShapes
set_option linter.unusedVariables false
set_option linter.unusedSimpArgs false
attribute [local go_sem ↓] Go.wp_at_zero Go.wp_at_succ

theorem ordL_pre : ∀ (s t : List UInt8), t ≠ [] → ordL s (s ++ t) = -1
  | [], [], h => absurd rfl h
  | [], _ :: _, _ => rfl
  | x :: r, t, h => by
    show ordL (x :: r) (x :: (r ++ t)) = -1
    unfold ordL
    rw [if_pos rfl]
    exact ordL_pre r t h
theorem par_pre {p : ByteArray} (hp : (parse p).1 = 0) (hr : p ≠ pRt) : ∃ t, t ≠ [] ∧ p.data.toList = (parB p).data.toList ++ t := by
  obtain ⟨xs, k, x, hx, hl, hk, _⟩ := names_of hp hr
  have hne : xs ≠ [] := fun e => by rw [e] at hl; simp at hl
  have hxs : xs = xs.take k ++ [x] := by
    have := List.take_add_one (l := xs) (i := k)
    rw [hk, ← hl, List.take_length] at this
    exact this
  have ht : p.data.toList = flatN (xs.take k) ++ 47 :: x.data.toList := by
    rw [← parse_back hx, placeB, if_neg hne, data_mk]
    conv => lhs; rw [hxs]
    simp [flatN]
  have hx0 : x.data.toList ≠ [] := fun e => by
    have hall := (parse_len hx).2
    rw [List.all_eq_true] at hall
    have h9 := hall x (List.mem_of_getElem? hk)
    have : x.size = 0 := by have h8 := congrArg List.length e; simpa using h8
    simp [isNm, this] at h9
  rw [par_of (x := x) hx hl]
  by_cases h0 : xs.take k = []
  · refine ⟨x.data.toList, hx0, ?_⟩
    rw [ht, h0, placeB, if_pos rfl, data_mk]
    rfl
  · refine ⟨47 :: x.data.toList, by simp, ?_⟩
    rw [ht, placeB, if_neg h0, data_mk]
theorem par_less {p : ByteArray} (hp : (parse p).1 = 0) (hr : p ≠ pRt) : O (parB p) p = -1 := by
  obtain ⟨t, h0, h1⟩ := par_pre hp hr
  rw [O_list, h1]
  exact ordL_pre _ _ h0
theorem root_less {p : ByteArray} (hp : (parse p).1 = 0) (hr : p ≠ pRt) : O pRt p = -1 := by
  obtain ⟨xs, k, x, hx, hl, hk, _⟩ := names_of hp hr
  have hne : xs ≠ [] := fun e => by rw [e] at hl; simp at hl
  obtain ⟨y, r, rfl⟩ : ∃ y r, xs = y :: r := by cases xs with | nil => exact absurd rfl hne | cons y r => exact ⟨y, r, rfl⟩
  have hy0 : y.data.toList ≠ [] := fun e => by
    have hall := (parse_len hx).2
    rw [List.all_eq_true] at hall
    have h9 := hall y List.mem_cons_self
    have : y.size = 0 := by have h8 := congrArg List.length e; simpa using h8
    simp [isNm, this] at h9
  have ht : p.data.toList = [47] ++ (y.data.toList ++ flatN r) := by
    rw [← parse_back hx, placeB, if_neg hne, data_mk]
    simp [flatN]
  rw [O_list, ht]
  exact ordL_pre [47] _ (by simp [hy0])
theorem Snd.first {T : List Nd} (h : Snd T) : ∃ r, T[0]? = some r ∧ r.p = pRt ∧ r.o = 0 := by
  obtain ⟨r, hr, hp, ho⟩ := h.root
  cases T with
  | nil => cases hr
  | cons x U =>
    refine ⟨x, rfl, ?_⟩
    rcases List.mem_cons.1 hr with rfl | hr
    · exact ⟨hp, ho⟩
    · exfalso
      have h1 := (List.pairwise_cons.1 h.inv.srt).1 r hr
      rw [hp] at h1
      by_cases hx : x.p = pRt
      · rw [hx, O_self] at h1
        cases h1
      · have h2 := root_less (h.inv.nd x List.mem_cons_self).1 hx
        rw [O_anti x.p pRt, h1] at h2
        cases h2
theorem Snd.above {T : List Nd} (h : Snd T) {i : Nat} {x : Nd} (hi : 0 < i) (hx : T[i]? = some x) : x.p ≠ pRt ∧ ∃ k u, k < i ∧ T[k]? = some u ∧ u.p = parB x.p ∧ u.o = 0 := by
  have hil := (List.getElem?_eq_some_iff.1 hx).1
  have hxm := List.mem_of_getElem? hx
  obtain ⟨r, hr0, hrp, _⟩ := h.first
  have hlt : ∀ {j k : Nat} {y z : Nd}, T[j]? = some y → T[k]? = some z → j < k → O y.p z.p = -1 := fun {j k y z} hy hz hjk => by
    obtain ⟨hj, e1⟩ := List.getElem?_eq_some_iff.1 hy
    obtain ⟨hk, e2⟩ := List.getElem?_eq_some_iff.1 hz
    have := List.pairwise_iff_getElem.1 h.inv.srt j k hj hk hjk
    rw [e1, e2] at this
    exact this
  have hxr : x.p ≠ pRt := fun e => by
    have := hlt hr0 hx hi
    rw [hrp, e, O_self] at this
    cases this
  refine ⟨hxr, ?_⟩
  obtain ⟨u, hu, hup, huo⟩ := h.up x hxm hxr
  obtain ⟨k, hk⟩ := List.mem_iff_getElem?.1 hu
  refine ⟨k, u, ?_, hk, hup, huo⟩
  have h1 := par_less (h.inv.nd x hxm).1 hxr
  rcases Nat.lt_trichotomy k i with hki | hki | hki
  · exact hki
  · subst hki
    rw [hx] at hk
    obtain rfl := Option.some.inj hk
    rw [← hup, O_self] at h1
    cases h1
  · have h2 := hlt hx hk hki
    rw [hup] at h2
    rw [O_anti x.p (parB x.p), h2] at h1
    cases h1
theorem Snd.order {T : List Nd} (h : Snd T) {i : Nat} {x y : Nd} (hy : T[i]? = some y) (hx : T[i + 1]? = some x) : O y.p x.p = -1 := by
  obtain ⟨hj, e1⟩ := List.getElem?_eq_some_iff.1 hy
  obtain ⟨hk, e2⟩ := List.getElem?_eq_some_iff.1 hx
  have := List.pairwise_iff_getElem.1 h.inv.srt i (i + 1) hj hk (by omega)
  rw [e1, e2] at this
  exact this
theorem parC_zero {p : ByteArray} (hp : (parse p).1 = 0) (hr : p ≠ pRt) : parC p = 0 := by
  obtain ⟨xs, k, x, hx, hl, _, _⟩ := names_of hp hr
  unfold parC
  rw [hx, if_pos rfl, if_neg (fun e => by rw [show xs = [] from e] at hl; simp at hl)]
end Go.Proofs.YtmbomdhhiioigaaGreatDoor
namespace Go.Proofs.YtmbomdhhiioigaaGreatDoor
open Go.RowKit Go.Maps Go.WideShapes
set_option linter.unusedVariables false
set_option linter.unusedSimpArgs false
attribute [local go_sem ↓] Go.wp_at_zero Go.wp_at_succ

theorem beq_ne {a b : ByteArray} (h : a ≠ b) : (a.toList == b.toList) = false := by
  cases hb : (a.toList == b.toList) with
  | false => rfl
  | true =>
    exfalso
    have h1 : a.toList = b.toList := by simpa using hb
    rw [ByteArray.toList_eq, ByteArray.toList_eq] at h1
    exact h (ByteArray.ext (Array.ext' h1))
end Go.Proofs.YtmbomdhhiioigaaGreatDoor
namespace Go.Proofs.YtmbomdhhiioigaaGreatDoor
open Go.RowKit Go.Maps Go.WideShapes
set_option linter.unusedVariables false
set_option linter.unusedSimpArgs false
attribute [local go_sem ↓] Go.wp_at_zero Go.wp_at_succ

theorem cells_3 {W : World} {b : Nat} {t : TypeId} {x0 x1 x2 : Value} (h : W.heap[b]? = some (.cells #[x0, x1, x2] t (0, 0))) : W.cell? ⟨b, 0, none⟩ = some x0 ∧ W.cell? ⟨b, 1, none⟩ = some x1 ∧ W.cell? ⟨b, 2, none⟩ = some x2 := by
  simp [World.cell?, h]
structure SnT where
  p : ByteArray
  d : ByteArray
  v : Int
abbrev SnT.cs (x : SnT) : List Value := [.string x.p, .string x.d, .int .i64 x.v]
def snN (k : Int) (x : Nd) : SnT := ⟨x.p, sd k x.d, sv k x.v⟩
def parT (T : List Nd) (k : Int) (p : ByteArray) : List SnT := (T.filter (fun x => covers k p 1 x.p)).map (snN k)
theorem parT_len (T : List Nd) (k : Int) (p : ByteArray) : (parT T k p).length ≤ T.length := by
  unfold parT
  rw [List.length_map]
  exact List.length_filter_le _ _
theorem seenCs_T {D : DataW Value} {T : List Nd} (h : Rep D T) (k : Int) : ∀ U : List Nd, (∀ x ∈ U, x ∈ T) → seenCs k D (U.map Nd.by) = (U.map (snN k)).flatMap SnT.cs
  | [], _ => rfl
  | x :: r, hU => by
    have e : (⟨(Nd.by x).toArray⟩ : ByteArray) = x.p := ByteArray.ext (by simp [Nd.by])
    have ih := seenCs_T h k r (fun y hy => hU y (List.mem_cons_of_mem _ hy))
    unfold seenCs at ih ⊢
    rw [List.map_cons, List.map_cons, List.flatten_cons, ih, List.map_cons, List.flatMap_cons, e, h.look x (hU x List.mem_cons_self)]
    congr 1
    unfold seenOf snN sd sv
    by_cases hk : k = 2 <;> simp [hk, cellsOf]
theorem part_tr (B tb q : Nat) (T : List Nd) (k : Int) (p : ByteArray) (w : World) (hg : Ground w) (h : TrAt w B tb q T) (hp : (parse p).1 = 0) (hk : k = 1 ∨ k = 2 ∨ k = 3) :
    Calls Tryz.prog 16 #[.pointer (some ⟨tb, 0, none⟩), .string p, .int .i64 k] w fun e w' => ∃ a cap, e = .returned (.tuple #[.slice a (parT T k p).length cap, .int .i64 0]) ∧ w'.ownsRow w.heap.size 92 3 (.slice a (parT T k p).length cap) (parT T k p).length ((parT T k p).flatMap SnT.cs) ∧ Below w.heap.size w w' := by
  obtain ⟨mb, n, D, h1, h2, h3⟩ := h.at'
  refine Calls.mono (part_any sorts_to sorts_nil B tb mb n D k p w hg h1 (by rw [h2.size]; have := h.snd.inv.len; omega) (h2.wf h.snd.inv.sml) (by simpa [isP] using hp) hk) ?_
  rintro e w' ⟨a, cap, ts, rfl, hpm, ha, hr, hb⟩
  have h4 := (h.snd.inv.srt.filter (fun x => wF k p x.by)).only (hpm.trans (filter_keys h2 (wF k p))) ha
  have e1 : T.filter (fun x => wF k p x.by) = T.filter (fun x => covers k p 1 x.p) := rfl
  rw [e1] at h4
  subst h4
  rw [seenCs_T h2 k _ (fun x hx => (List.mem_filter.1 hx).1)] at hr
  have e2 : ((T.filter (fun x => covers k p 1 x.p)).map Nd.by).length = (parT T k p).length := by unfold parT; simp
  rw [e2] at hr ⊢
  exact ⟨a, cap, rfl, hr, hb⟩
set_option maxHeartbeats 3200000 in
theorem part_bad (B tb q : Nat) (T : List Nd) (k : Int) (p : ByteArray) (w : World) (hg : Ground w) (h : TrAt w B tb q T) (hp : (parse p).1 ≠ 0) :
    Calls Tryz.prog 16 #[.pointer (some ⟨tb, 0, none⟩), .string p, .int .i64 k] w fun e w' => e = .returned (.tuple #[.slice none 0 0, .int .i64 10]) ∧ Below w.heap.size w w' := by
  obtain ⟨mb, n, D, h1, _⟩ := h.at'
  have HN : Hid _ := isNone_at tb (some mb) w (cells_1 h1.box)
  have HP : Hid (Calls Tryz.prog 28 #[.string p] w (Parsed p w)) := parse_any p w hg
  obtain ⟨pc, hpc⟩ : ∃ pc, (parse p).1 = pc := ⟨_, rfl⟩
  have HPC : Hid ((parse p).1 = pc) := hpc
  rw [hpc] at hp
  have e1 : (pc != 0) = true := by simpa using hp
  clear hpc hp h h1 hg
  go_enter Tryz.func16, Tryz.ntmps16
  go_wp2_with (first
    | (go_at_call 21; refine Calls.mono HN.out ?_; rintro e w0 ⟨rfl, rfl⟩)
    | fail)
  refine Calls.mono HP.out ?_
  rintro e w1 ⟨a, c, rfl, _, hb⟩
  have HB : Hid _ := hb
  rw [HPC.out]
  clear hb
  go_wp2_with fail
  go_ret2
  exact ⟨rfl, HB.out⟩
set_option maxHeartbeats 3200000 in
theorem part_arg (B tb q : Nat) (T : List Nd) (k : Int) (p : ByteArray) (w : World) (hg : Ground w) (h : TrAt w B tb q T) (hp : (parse p).1 = 0) (hk : k < 1 ∨ 3 < k) :
    Calls Tryz.prog 16 #[.pointer (some ⟨tb, 0, none⟩), .string p, .int .i64 k] w fun e w' => e = .returned (.tuple #[.slice none 0 0, .int .i64 1]) ∧ Below w.heap.size w w' := by
  obtain ⟨mb, n, D, h1, _⟩ := h.at'
  have HN : Hid _ := isNone_at tb (some mb) w (cells_1 h1.box)
  have HP : Hid (Calls Tryz.prog 28 #[.string p] w (Parsed p w)) := parse_any p w hg
  have HPC : Hid ((parse p).1 = 0) := hp
  have e1 : (k != 1) = true := by simp; omega
  have e2 : (k != 2) = true := by simp; omega
  have e3 : (k != 3) = true := by simp; omega
  clear hp h h1 hg hk
  go_enter Tryz.func16, Tryz.ntmps16
  go_wp2_with (first
    | (go_at_call 21; refine Calls.mono HN.out ?_; rintro e w0 ⟨rfl, rfl⟩)
    | fail)
  refine Calls.mono HP.out ?_
  rintro e w1 ⟨a, c, rfl, _, hb⟩
  have HB : Hid _ := hb
  rw [HPC.out]
  clear hb
  go_wp2_with fail
  go_ret2
  exact ⟨rfl, HB.out⟩
/-- What lies below a place that is not there is not there. -/
theorem Snd.below {T : List Nd} (h : Snd T) {p : ByteArray} (hp : (parse p).1 = 0) : ∀ (n : Nat) (y : Nd), y ∈ T → (parse y.p).2.length ≤ n → Bel (parse p).2 (parse y.p).2 → ∃ u ∈ T, u.p = p
  | n, y, hy, hn, hb => by
    have hyp := (h.inv.nd y hy).1
    have hyr : y.p ≠ pRt := fun e => by
      have h9 := hb
      rw [e, show parse pRt = (0, []) by kernel_rfl] at h9
      obtain ⟨h1, _⟩ := h9
      simp at h1
    obtain ⟨xs, k, x, hx, hl, hk, _⟩ := names_of hyp hyr
    obtain ⟨u, hu, hup, _⟩ := h.up y hy hyr
    rw [par_of (x := x) hx hl] at hup
    have hlen := parse_len hx
    have hup2 : parse u.p = (0, xs.take k) := by
      rw [hup]
      exact parse_place (by rw [List.length_take]; omega) (all_take hlen.2 k)
    rw [hx] at hb hn
    have hn : xs.length ≤ n := hn
    obtain ⟨h1, h2⟩ := hb
    by_cases hek : (parse p).2.length = k
    · refine ⟨u, hu, ?_⟩
      rw [hup]
      have h3 : (parse p).2 = xs.take k := by rw [← hek]; exact h2.symm
      rw [← h3]
      exact parse_back (by rw [← hp])
    · match n, hn with
      | 0, hn => omega
      | n + 1, hn =>
        refine Snd.below h hp n u hu (by rw [hup2]; simp; omega) ?_
        rw [hup2]
        refine ⟨by rw [List.length_take]; show _ < _; have : (parse p).2.length < xs.length := h1; omega, ?_⟩
        rw [List.take_take, Nat.min_eq_left (by have : (parse p).2.length < xs.length := h1; omega)]
        exact h2
theorem part_none {T : List Nd} (h : Snd T) {p : ByteArray} (hp : (parse p).1 = 0) (hf : fnd T p = none) (k : Int) : parT T k p = [] := by
  unfold parT
  rw [List.map_eq_nil_iff, List.filter_eq_nil_iff]
  intro y hy hc
  have hyp := (h.inv.nd y hy).1
  have hne := fnd_none hf y hy
  have e1 : eqB y.p p = false := beq_ne hne
  have hbel : Bel (parse p).2 (parse y.p).2 → False := fun hb => by
    obtain ⟨u, hu, e⟩ := h.below hp _ y hy (Nat.le_refl _) hb
    exact fnd_none hf u hu e
  have e3 : belB p y.p = false := by
    unfold belB
    exact decide_eq_false hbel
  have e2 : childB p y.p = false := by
    cases hcb : childB p y.p with
    | false => rfl
    | true =>
      exfalso
      by_cases hyr : y.p = pRt
      · rw [hyr] at hcb
        cases hcb
      · obtain ⟨xs, j, x, hx, hl, _, _⟩ := names_of hyp hyr
        have h9 : parB y.p = p := by
          unfold childB at hcb
          rw [hx] at hcb
          simp only [hl, Nat.add_sub_cancel] at hcb
          rw [← par_of (x := x) hx hl] at hcb
          have h8 : (parB y.p).toList = p.toList := by
            have := (Bool.and_eq_true _ _ ▸ hcb).2
            simpa using this
          rw [ByteArray.toList_eq, ByteArray.toList_eq] at h8
          exact ByteArray.ext (Array.ext' h8)
        obtain ⟨u, hu, hup, _⟩ := h.up y hy hyr
        exact fnd_none hf u hu (hup.trans h9)
  unfold covers cov at hc
  rw [e1, e2, e3] at hc
  simp at hc
end Go.Proofs.YtmbomdhhiioigaaGreatDoor
