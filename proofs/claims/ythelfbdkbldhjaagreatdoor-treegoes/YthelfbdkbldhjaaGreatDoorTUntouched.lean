/-
  tree: the document's Play.
-/
import Derived.Test.YthelfbdkbldhjaaGreatDoorTRefW
import Derived.Test.YthelfbdkbldhjaaGreatDoorTRefE
import Derived.Test.YthelfbdkbldhjaaGreatDoorTPlayM
import Derived.Test.YthelfbdkbldhjaaGreatDoorTSound
import Derived.Test.YthelfbdkbldhjaaGreatDoorTOne
namespace Go.Proofs.YthelfbdkbldhjaaGreatDoor
open Go.RowKit Go.Maps Go.WideShapes
set_option linter.unusedVariables false
set_option linter.unusedSimpArgs false
attribute [local go_sem ↓] Go.wp_at_zero Go.wp_at_succ

theorem results_cct {P : Program} {fn : Func} {p1 p2 s3 : Tmp} {ty1 ty2 : TypeId} (h : fn.results = #[.cell p1 ty1, .cell p2 ty2, .tmp s3]) (tmps : Array Value) (w : World) (g1 g2 : Nat) (t1 t2 : TypeId) (cs1 cs2 : Array Value) (fr1 fr2 : Nat × Nat) (d1 d2 : TypeDesc) (v3 : Value)
    (hp1 : tmps.getD p1 undef = .pointer (some ⟨g1, 0, none⟩)) (hp2 : tmps.getD p2 undef = .pointer (some ⟨g2, 0, none⟩)) (h3 : tmps.getD s3 undef = v3) (hg1 : w.heap[g1]? = some (.cells cs1 t1 fr1)) (hg2 : w.heap[g2]? = some (.cells cs2 t2 fr2))
    (hu1 : P.underlying ty1 = some d1) (hd1 : (match d1 with | .struct _ | .array _ _ => true | _ => false) = true) (hi1 : (P.info? ty1).map (·.size) = some cs1.size)
    (hu2 : P.underlying ty2 = some d2) (hd2 : (match d2 with | .struct _ | .array _ _ => true | _ => false) = true) (hi2 : (P.info? ty2).map (·.size) = some cs2.size) :
    (results fn tmps).run P w = .ok (.tuple #[.agg cs1, .agg cs2, v3]) w := by
  have hp1' : tmps[p1]?.getD undef = .pointer (some ⟨g1, 0, none⟩) := by simpa using hp1
  have hp2' : tmps[p2]?.getD undef = .pointer (some ⟨g2, 0, none⟩) := by simpa using hp2
  subst h3
  simp [results, h, hp1', hp2', asAddr, run_loadVar_row w g1 t1 ty1 cs1 fr1 d1 hg1 hu1 hd1 hi1, run_loadVar_row w g2 t2 ty2 cs2 fr2 d2 hg2 hu2 hd2 hi2]

/-- The document's results, with where the lists of names lie. -/
structure RsD (w : World) (B : Nat) (rv : Value) (L : List RsT) : Prop where
  row : w.ownsRow B 87 7 rv L.length (L.flatMap RsT.cs)
  kids : ∀ x ∈ L, w.ownsRow 0 9 1 (.slice x.a x.n x.c) x.r.kids.length (x.r.kids.map Value.string)
theorem RsD.nil (w : World) (B : Nat) : RsD w B (.slice none 0 0) [] := ⟨World.ownsRow_nil _ _ _ _, fun x hx => by cases hx⟩
theorem RsD.below {w w' : World} {B : Nat} {rv : Value} {L : List RsT} (h : RsD w B rv L) (hb : Below w.heap.size w w') : RsD w' B rv L :=
  ⟨owns_chg h.row (Chg.of_below hb (fun _ => False)) (fun _ _ => id), fun x hx => owns_chg (h.kids x hx) (Chg.of_below hb (fun _ => False)) (fun _ _ => id)⟩
theorem RsD.chg {w w' : World} {B : Nat} {rv : Value} {L : List RsT} {S : Nat → Prop} (h : RsD w B rv L) (hc : Chg w w' S) (hs : ∀ k, S k → ∀ cur, w.heap[k]? ≠ some (.cells cur 87 (0, 0)) ∧ w.heap[k]? ≠ some (.cells cur 9 (0, 0))) : RsD w' B rv L :=
  ⟨owns_chg h.row hc (fun k hk e => by
    obtain ⟨cur, hcur⟩ := owns_kind h.row hk
    exact (hs k e cur).1 hcur), fun x hx => owns_chg (h.kids x hx) hc (fun k hk e => by
    obtain ⟨cur, hcur⟩ := owns_kind (h.kids x hx) hk
    exact (hs k e cur).2 hcur)⟩
theorem NdsAt.chg {w w' : World} {a : Option Addr} {T : List Nd} {S : Nat → Prop} (h : NdsAt w a T) (hc : Chg w w' S) (hs : ∀ k, S k → ∀ cur, w.heap[k]? ≠ Option.some (.cells cur 50 (0, 0))) : NdsAt w' a T := fun i x hx => by
  obtain ⟨b, f, ha, hlt, ⟨cur, hk⟩, hcs⟩ := h i x hx
  have e := hc.block b hlt (fun e => hs b e cur hk)
  exact ⟨b, f, ha, Nat.lt_of_lt_of_le hlt hc.size, ⟨cur, by rw [e]; exact hk⟩, fun j v hv => by rw [World.cell?_of_block e]; exact hcs j v hv⟩
theorem owns_low {w : World} {B B' t s n : Nat} {v : Value} {xs : List Value} (h : w.ownsRow B t s v n xs) (hB : B' ≤ B) : w.ownsRow B' t s v n xs :=
  ⟨h.1, h.2.imp id (fun ⟨g, cap, cur, h1, h2, r⟩ => ⟨g, cap, cur, h1, Nat.le_trans hB h2, r⟩)⟩
theorem RsD.at {w : World} {B : Nat} {rv : Value} {L : List RsT} (h : RsD w B rv L) : RsAt w 0 rv L.length L :=
  ⟨by
    rw [Nat.sub_self]
    have e : Fa.fl (L.map RsT.el ++ List.replicate 0 zEl) = L.flatMap RsT.cs := by
      show (L.map RsT.el ++ []).flatMap (fun e : Fa.El 7 => e.1) = _
      rw [List.append_nil, List.flatMap_map]
      rfl
    rw [e]
    exact owns_low h.row (Nat.zero_le _), Nat.le_refl _, h.kids⟩
theorem chs_cells {w : World} {b f : Nat} {l : List ChT} (h : ChsAt w (some ⟨b, f, none⟩) l) {i : Nat} {x : ChT} (hx : l[i]? = some x) : b < w.heap.size ∧ w.cell? ⟨b, f + i * 4, none⟩ = some (.int .i64 x.k) ∧ w.cell? ⟨b, f + i * 4 + 1, none⟩ = some (.string x.p) ∧ w.cell? ⟨b, f + i * 4 + 2, none⟩ = some (.string x.d) ∧ w.cell? ⟨b, f + i * 4 + 3, none⟩ = some (.int .i64 x.v) := by
  obtain ⟨b', f', e, hl, _, hc⟩ := h i x hx
  simp only [Option.some.injEq, Addr.mk.injEq, and_true] at e
  obtain ⟨rfl, rfl⟩ := e
  have h0 := hc 0 _ rfl
  rw [Nat.add_zero] at h0
  exact ⟨hl, h0, hc 1 _ rfl, hc 2 _ rfl, hc 3 _ rfl⟩
theorem ChsAt.chg {w w' : World} {a : Option Addr} {l : List ChT} {S : Nat → Prop} (h : ChsAt w a l) (hc : Chg w w' S) (hs : ∀ k, S k → ∀ cur, w.heap[k]? ≠ some (.cells cur 85 (0, 0))) : ChsAt w' a l := fun i x hx => by
  obtain ⟨b, f, ha, hlt, ⟨cur, hk⟩, hcs⟩ := h i x hx
  have e := hc.block b hlt (fun e => hs b e cur hk)
  exact ⟨b, f, ha, Nat.lt_of_lt_of_le hlt hc.size, ⟨cur, by rw [e]; exact hk⟩, fun j v hv => by rw [World.cell?_of_block e]; exact hcs j v hv⟩
/-- What the document's Play leaves. -/
def PlayD (w : World) (st : Int) (M : PlayR) (e : Ending) (w' : World) : Prop :=
  ∃ a c rv ca cc L, e = .returned (.tuple #[rtV a M.T.length c, .agg #[.int .i64 st, .int .i64 M.code, .int .i64 M.at', rv], .slice ca M.C.length cc]) ∧ L.map RsT.r = M.R ∧ RsD w' w.heap.size rv L ∧ NdsAt w' a M.T ∧ w'.ownsRow w.heap.size 85 4 (.slice ca M.C.length cc) M.C.length (chCs M.C) ∧ Below w.heap.size w w'
theorem PlayD.no {w w' : World} {a : Option Addr} {T : List Nd} {N at' : Nat} {st : Int} (hN : T.length = N) (c : Nat) (code : Int) (h : NdsAt w a T) (hb : Below w.heap.size w w') :
    PlayD w st ⟨code, at', T, [], []⟩ (.returned (.tuple #[rtV a N c, .agg #[.int .i64 st, .int .i64 code, .int .i64 at', .slice none 0 0], .slice none 0 0])) w' :=
  ⟨a, c, .slice none 0 0, none, 0, [], by rw [hN]; rfl, rfl, RsD.nil _ _, h.below hb, World.ownsRow_nil _ _ _ _, hb⟩
/-- The document's request, between two ops. -/
structure PlS (w1 wr : World) (B rb : Nat) (st : Int) (la : Option Addr) (T : List Nd) (cv : Value) (C : List ChT) (rv : Value) (L : List RsT) : Prop where
  nds : NdsAt wr la T
  ch : wr.ownsRow B 85 4 cv C.length (chCs C)
  box : wr.heap[rb]? = some (.cells #[.int .i64 st, .int .i64 0, .int .i64 0, rv] 54 (0, 0))
  rs : RsD wr B rv L
  low : Below w1.heap.size w1 wr
  base : w1.heap.size ≤ rb
  lt : rb < B
  hB : B ≤ wr.heap.size
theorem PlS.below {w1 wr w' : World} {B rb : Nat} {st : Int} {la : Option Addr} {T : List Nd} {cv rv : Value} {C : List ChT} {L : List RsT} (h : PlS w1 wr B rb st la T cv C rv L) (hb : Below wr.heap.size wr w') : PlS w1 w' B rb st la T cv C rv L :=
  ⟨h.nds.below hb, owns_chg h.ch (Chg.of_below hb (fun _ => False)) (fun _ _ => id), kept_block hb h.box, h.rs.below hb, trans2 h.low hb, h.base, h.lt, Nat.le_trans h.hB hb.size⟩
theorem PlS.turn {w1 wr : World} {B rb : Nat} {st : Int} {la la' : Option Addr} {T T' : List Nd} {cv rv : Value} {C : List ChT} {L : List RsT} (h : PlS w1 wr B rb st la T cv C rv L) (hn : NdsAt wr la' T') : PlS w1 wr B rb st la' T' cv C rv L := ⟨hn, h.ch, h.box, h.rs, h.low, h.base, h.lt, h.hB⟩
/-- One more result. -/
theorem PlS.res {w1 w4 w5 : World} {B rb g cap N : Nat} {st : Int} {la : Option Addr} {T : List Nd} {cv rv : Value} {C : List ChT} {L : List RsT} {o : Obj} (h : PlS w1 w4 B rb st la T cv C rv L) (x : RsT) (hN : L.length = N) (hk : w4.ownsRow 0 9 1 (.slice x.a x.n x.c) x.r.kids.length (x.r.kids.map Value.string))
    (hown : w5.ownsRow B 87 7 (.slice (some ⟨g, 0, none⟩) (N + 1) cap) (N + 1) (L.flatMap RsT.cs ++ x.cs)) (hgrow : (w4.alloc o).grownBy w5 rv.ownBlock) :
    w5.heap[rb]? = some (.cells #[.int .i64 st, .int .i64 0, .int .i64 0, rv] 54 (0, 0)) ∧ PlS w1 (w5.setCell ⟨rb, 3, none⟩ (.slice (some ⟨g, 0, none⟩) (N + 1) cap)) B rb st la T cv C (.slice (some ⟨g, 0, none⟩) (N + 1) cap) (L ++ [x]) ∧ Chg w4 (w5.setCell ⟨rb, 3, none⟩ (.slice (some ⟨g, 0, none⟩) (N + 1) cap)) (fun k => rv.ownBlock = some k ∨ k = rb) := by
  have hc5 : Chg w4 w5 (fun k => rv.ownBlock = some k) := (Chg.alloc w4 o _).trans (Chg.grown hgrow)
  have hkind : ∀ k, rv.ownBlock = some k → ∃ cur, w4.heap[k]? = some (.cells cur 87 (0, 0)) := fun k hk' => owns_kind h.rs.row hk'
  have hb5 : w5.heap[rb]? = some (.cells #[.int .i64 st, .int .i64 0, .int .i64 0, rv] 54 (0, 0)) := kept_chg hc5 h.box (fun e => by
    obtain ⟨cur, hcur⟩ := hkind rb e
    rw [h.box] at hcur
    simp at hcur)
  have hC : Chg w4 (w5.setCell ⟨rb, 3, none⟩ (.slice (some ⟨g, 0, none⟩) (N + 1) cap)) (fun k => rv.ownBlock = some k ∨ k = rb) := (hc5.mono (fun _ _ e => .inl e)).trans ((Chg.set _ _ _).mono (fun _ _ e => .inr e))
  have hS : ∀ k, (rv.ownBlock = some k ∨ k = rb) → (∃ cur, w4.heap[k]? = some (.cells cur 87 (0, 0))) ∨ w4.heap[k]? = some (.cells #[.int .i64 st, .int .i64 0, .int .i64 0, rv] 54 (0, 0)) := fun k e => by
    rcases e with e | rfl
    · exact .inl (hkind k e)
    · exact .inr h.box
  have hrowK : ∀ {B' t sz m : Nat} {v : Value} {xs : List Value}, w4.ownsRow B' t sz v m xs → t ≠ 87 → t ≠ 54 → (w5.setCell ⟨rb, 3, none⟩ (.slice (some ⟨g, 0, none⟩) (N + 1) cap)).ownsRow B' t sz v m xs := fun hr h1 h2 => owns_chg hr hC (fun k hk' e => by
    obtain ⟨cur, hcur⟩ := owns_kind hr hk'
    rcases hS k e with ⟨cur', h9⟩ | h9
    · rw [hcur] at h9
      simp at h9
      exact h1 h9.2
    · rw [hcur] at h9
      simp at h9
      exact h2 h9.2)
  refine ⟨hb5, ⟨h.nds.chg hC (fun k e cur hcur => ?_), hrowK h.ch (by decide) (by decide), same_blk hb5 rfl, ⟨?_, fun y hy => ?_⟩, ?_, h.base, h.lt, Nat.le_trans h.hB hC.size⟩, hC⟩
  · rcases hS k e with ⟨cur', h9⟩ | h9
    · rw [hcur] at h9
      simp at h9
    · rw [hcur] at h9
      simp at h9
  · have h9 : (w5.setCell ⟨rb, 3, none⟩ (.slice (some ⟨g, 0, none⟩) (N + 1) cap)).ownsRow B 87 7 (.slice (some ⟨g, 0, none⟩) (N + 1) cap) (N + 1) (L.flatMap RsT.cs ++ x.cs) := owns_chg hown (Chg.set _ _ _) (fun k hk' e => by
      have := (hown.lt k hk').1
      have e' : k = rb := e
      have := h.lt
      omega)
    rw [List.length_append, hN, List.flatMap_append]
    simpa using h9
  · rcases List.mem_append.1 hy with hy | hy
    · exact hrowK (h.rs.kids y hy) (by decide) (by decide)
    · obtain rfl := List.mem_singleton.1 hy
      exact hrowK hk (by decide) (by decide)
  · refine h.low.trans (hC.below h.low.size (fun k _ e => ?_))
    rcases e with e | rfl
    · have := (h.rs.row.lt k e).1
      have := h.lt
      have := h.base
      omega
    · exact h.base
/-- One more change. -/
theorem PlS.chs {w1 w4 w5 : World} {B rb g cap N : Nat} {st : Int} {la : Option Addr} {T : List Nd} {cv rv : Value} {C : List ChT} {L : List RsT} {o : Obj} (h : PlS w1 w4 B rb st la T cv C rv L) (x : ChT) (hN : C.length = N)
    (hown : w5.ownsRow B 85 4 (.slice (some ⟨g, 0, none⟩) (N + 1) cap) (N + 1) (chCs C ++ x.cells)) (hgrow : (w4.alloc o).grownBy w5 cv.ownBlock) :
    PlS w1 w5 B rb st la T (.slice (some ⟨g, 0, none⟩) (N + 1) cap) (C ++ [x]) rv L := by
  have hc5 : Chg w4 w5 (fun k => cv.ownBlock = some k) := (Chg.alloc w4 o _).trans (Chg.grown hgrow)
  have hkind : ∀ k, cv.ownBlock = some k → ∃ cur, w4.heap[k]? = some (.cells cur 85 (0, 0)) := fun k hk' => owns_kind h.ch hk'
  refine ⟨h.nds.chg hc5 (fun k e cur hcur => ?_), ?_, kept_chg hc5 h.box (fun e => ?_), h.rs.chg hc5 (fun k e cur => ?_), ?_, h.base, h.lt, Nat.le_trans h.hB hc5.size⟩
  · obtain ⟨cur', h9⟩ := hkind k e
    rw [hcur] at h9
    simp at h9
  · rw [List.length_append, hN]
    simpa [chCs] using hown
  · obtain ⟨cur', h9⟩ := hkind rb e
    rw [h.box] at h9
    simp at h9
  · obtain ⟨cur', h9⟩ := hkind k e
    rw [h9]
    constructor <;> simp
  · refine h.low.trans (hc5.below h.low.size (fun k _ e => ?_))
    have := (h.ch.lt k e).1
    have := h.lt
    have := h.base
    omega
end Go.Proofs.YthelfbdkbldhjaaGreatDoor
namespace Go.Proofs.YthelfbdkbldhjaaGreatDoor
open Go.RowKit Go.Maps Go.WideShapes
set_option linter.unusedVariables false
set_option linter.unusedSimpArgs false

def NdR (x : Nd) : Prop := (0 ≤ x.m ∧ x.m ≤ 2147483647) ∧ (0 ≤ x.c ∧ x.c ≤ 2147483647) ∧ (0 ≤ x.o ∧ x.o ≤ 2147483647) ∧ (x.o ≠ 0 → x.k = 0)
def Rng (T : List Nd) : Prop := ∀ x ∈ T, NdR x
theorem rng_upd {T : List Nd} (h : Rng T) {y : Nd} (hy : NdR y) : Rng (upd T y) := fun x hx => by
  obtain ⟨z, hz, rfl⟩ := List.mem_map.1 hx
  by_cases e : z.p = y.p
  · rw [if_pos e]; exact hy
  · rw [if_neg e]; exact h z hz
theorem rng_one {T : List Nd} (h : Rng T) {s st : Int} (hs : 0 ≤ s ∧ s ≤ 2147483647) (ht : 1 ≤ st ∧ st ≤ 2147483647) (o : OpT) : Rng (oneM T s st o).2.1 := by
  unfold oneM
  split
  · exact h
  split
  · unfold makeM
    split
    · exact h
    rename_i u hfu
    have hu := h u (fnd_some hfu).1
    split
    · exact h
    rename_i huo
    have huo : u.o = 0 := by simpa using huo
    split
    · exact h
    split
    · exact h
    split
    · exact h
    intro x hx
    rcases List.mem_cons.1 ((ins_perm _ _).mem_iff.1 hx) with rfl | hx
    · refine ⟨⟨by show 0 ≤ st; omega, ht.2⟩, ⟨by show 0 ≤ st; omega, ht.2⟩, ?_, fun _ => rfl⟩
      show 0 ≤ (if o.f % 2 = 1 then s else 0) ∧ (if o.f % 2 = 1 then s else 0) ≤ 2147483647
      split
      · exact hs
      · omega
    · exact rng_upd h (y := { u with k := if 2 ≤ o.f then u.k + 1 else u.k }) ⟨hu.1, hu.2.1, hu.2.2.1, fun e => absurd huo e⟩ x hx
  · split
    · exact h
    rename_i x hf
    have hx := h x (fnd_some hf).1
    split
    · exact h
    unfold restM
    split
    · exact rng_upd h (y := { x with d := o.d, v := x.v + 1, c := st }) ⟨hx.1, ⟨by show 0 ≤ st; omega, ht.2⟩, hx.2.2.1, hx.2.2.2⟩
    split
    · exact fun y hy => h y (List.mem_filter.1 hy).1
    · exact h
theorem rng_playL {T0 : List Nd} (h0 : Rng T0) {s st : Int} (hs : 0 ≤ s ∧ s ≤ 2147483647) (ht : 1 ≤ st ∧ st ≤ 2147483647) : ∀ (os : List OpT) (i : Nat) (T : List Nd) (R : List ResT) (C : List ChT), Rng T → Rng (playL T0 s st os i T R C).T
  | [], _, _, _, _, h => h
  | o :: r, i, T, R, C, h => by
    unfold playL
    split
    · exact h0
    · exact rng_playL h0 hs ht r _ _ _ _ (rng_one h hs ht o)
theorem rng_play {T : List Nd} (h : Rng T) (s st : Int) (os : List OpT) : Rng (playM T s st os).T := by
  unfold playM
  split
  · exact h
  · rename_i hm
    have hm : mayC s st os.length = 0 := by simpa using hm
    unfold mayC at hm
    split at hm
    · cases hm
    split at hm
    · cases hm
    rename_i hb
    exact rng_playL h (by omega) (by omega) os 0 T [] [] h
theorem rng_new : Rng [rootN] := fun x hx => by
  obtain rfl := List.mem_singleton.1 hx
  exact ⟨⟨by decide, by decide⟩, ⟨by decide, by decide⟩, ⟨by decide, by decide⟩, fun e => absurd rfl e⟩
end Go.Proofs.YthelfbdkbldhjaaGreatDoor
namespace Go.Proofs.YthelfbdkbldhjaaGreatDoor
open Go.RowKit Go.Maps
set_option linter.unusedVariables false
set_option linter.unusedSimpArgs false
abbrev roomCs : List Value := [.int .i64 77, .string ⟨#[114, 111, 111, 109]⟩, .string ⟨#[]⟩, .int .i64 0, .int .i64 0, .int .i64 78, .string ⟨#[114, 111, 111, 109]⟩, .string ⟨#[]⟩, .int .i64 0, .int .i64 0]
theorem opCs_len (os : List OpT) : (opCs os).length = os.length * 5 := by
  induction os with
  | nil => rfl
  | cons o os ih => simp [opCs] at *; omega
theorem opCs_at (os : List OpT) (q j : Nat) (o : OpT) (x : Value) (h : os[q]? = some o) (hx : o.cells[j]? = some x) (rest : List Value) : (opCs os ++ rest)[q * 5 + j]? = some x := by
  induction os generalizing q with
  | nil => cases h
  | cons a os ih =>
    have hj : j < 5 := (List.getElem?_eq_some_iff.1 hx).1
    cases q with
    | zero =>
      cases h
      show (o.cells ++ opCs os ++ rest)[0 * 5 + j]? = some x
      rw [Nat.zero_mul, Nat.zero_add, List.append_assoc, List.getElem?_append_left (by simpa using hj)]
      exact hx
    | succ q =>
      show (a.cells ++ opCs os ++ rest)[(q + 1) * 5 + j]? = some x
      rw [List.append_assoc, List.getElem?_append_right (by simp; omega)]
      rw [show (q + 1) * 5 + j - a.cells.length = q * 5 + j by simp; omega]
      exact ih q h
theorem opCs_room (os : List OpT) (j : Nat) : (opCs os ++ roomCs)[os.length * 5 + j]? = roomCs[j]? := by
  rw [List.getElem?_append_right (by rw [opCs_len]; omega), opCs_len]
  congr 1
  omega

set_option maxHeartbeats 3200000 in
set_option maxRecDepth 100000 in
theorem untouched_any (base g cap : Nat) (w : World) (os : List OpT) (a : Option Addr) (c : Nat) (ho : OpsAt w base a os) (hr : w.ownsRow base 63 5 (.slice (some ⟨g, 0, none⟩) (os.length + 2) cap) (os.length + 2) (opCs os ++ roomCs)) (hl : os.length ≤ 2513169434846) :
    Calls Tryz.prog 20 #[.slice (some ⟨g, 0, none⟩) (os.length + 2) cap, .slice a os.length c] w fun e w' => e = .returned (.bool true) ∧ Below w.heap.size w w' := by
  have HO : Hid _ := ho
  have HR : Hid (w.ownsRow base 63 5 (.slice (some ⟨g, 0, none⟩) (os.length + 2) cap) (os.length + 2) (opCs os ++ roomCs)) := hr
  clear ho hr
  go_enter Tryz.func20, Tryz.ntmps20
  go_wp2_with fail
  go_loopw [6] (fun i wr => ∃ q : Nat, i = .int .i64 q ∧ q ≤ os.length ∧ Hid (Below w.heap.size w wr)) (fun i _ => os.length - (intOf i).toNat)
  case atStart => exact ⟨0, rfl, Nat.zero_le _, Below.refl _ _⟩
  case round =>
    obtain ⟨q, rfl, hq, HBk⟩ := hrel
    by_cases hlt : q < os.length
    · obtain ⟨o, hoq⟩ : ∃ o, os[q]? = some o := ⟨os[q], List.getElem?_eq_getElem hlt⟩
      obtain ⟨b, f, rfl, hbl, hcs⟩ := HO.out q o hoq
      have hgl : g < w.heap.size := (HR.out.lt g rfl).2
      have hbl' : b < w.heap.size := by have := (HR.out.lt g rfl).1; omega
      have hk : ∀ j x, o.cells[j]? = some x → wr.cell? ⟨b, f + q * 5 + j, none⟩ = some x := fun j x hx => by rw [HBk.out.cell (p := ⟨b, f + q * 5 + j, none⟩) hbl']; exact hcs j x hx
      have hm : ∀ j x, o.cells[j]? = some x → wr.cell? ⟨g, q * 5 + j, none⟩ = some x := fun j x hx => by rw [HBk.out.cell (p := ⟨g, q * 5 + j, none⟩) hgl]; exact cell_n HR.out (opCs_at os q j o x hoq hx _)
      have k0 : wr.cell? ⟨b, f + q * 5, none⟩ = some (.int .i64 o.k) := hk 0 _ rfl
      have k1 := hk 1 _ rfl
      have k2 := hk 2 _ rfl
      have k3 := hk 3 _ rfl
      have k4 := hk 4 _ rfl
      have m0 : wr.cell? ⟨g, q * 5, none⟩ = some (.int .i64 o.k) := hm 0 _ rfl
      have m1 := hm 1 _ rfl
      have m2 := hm 2 _ rfl
      have m3 := hm 3 _ rfl
      have m4 := hm 4 _ rfl
      have hlt' : (q : Int) < (os.length : Int) := by omega
      have hlt2 : (q : Int) < (os.length + 2 : Int) := by omega
      clear hk hm hcs hoq
      go_wp2_with fail
      go_region_held3 (fun w' => w'.cell? ⟨b, f + q * 5, none⟩ = some (.int .i64 o.k) ∧ w'.cell? ⟨b, f + q * 5 + 1, none⟩ = some (.string o.p) ∧ w'.cell? ⟨b, f + q * 5 + 2, none⟩ = some (.string o.d) ∧ w'.cell? ⟨b, f + q * 5 + 3, none⟩ = some (.int .i64 o.v) ∧ w'.cell? ⟨b, f + q * 5 + 4, none⟩ = some (.int .i64 o.f) ∧ w'.cell? ⟨g, q * 5, none⟩ = some (.int .i64 o.k) ∧ w'.cell? ⟨g, q * 5 + 1, none⟩ = some (.string o.p) ∧ w'.cell? ⟨g, q * 5 + 2, none⟩ = some (.string o.d) ∧ w'.cell? ⟨g, q * 5 + 3, none⟩ = some (.int .i64 o.v) ∧ w'.cell? ⟨g, q * 5 + 4, none⟩ = some (.int .i64 o.f)) (go_keep) (fail)
      have HBd : Hid (Below w.heap.size w wr.drew) := below_drew HBk.out
      go_wp2_with fail
      go_roundw
      case rel => exact ⟨q + 1, by go_num, by omega, HBd.out⟩
      case measure => simp [intOf]; omega
    · obtain rfl : q = os.length := by omega
      have hgl : g < w.heap.size := (HR.out.lt g rfl).2
      have hm : ∀ j x, roomCs[j]? = some x → wr.cell? ⟨g, os.length * 5 + j, none⟩ = some x := fun j x hx => by rw [HBk.out.cell (p := ⟨g, os.length * 5 + j, none⟩) hgl]; exact cell_n HR.out (by rw [opCs_room]; exact hx)
      have m0 : wr.cell? ⟨g, os.length * 5, none⟩ = some (.int .i64 77) := hm 0 _ rfl
      have m1 := hm 1 _ rfl
      have m2 := hm 2 _ rfl
      have m3 := hm 3 _ rfl
      have m4 := hm 4 _ rfl
      have e5 : ∀ j, (os.length + 1) * 5 + j = os.length * 5 + (5 + j) := fun j => by omega
      have n0 : wr.cell? ⟨g, (os.length + 1) * 5, none⟩ = some (.int .i64 78) := by have := hm 5 _ rfl; rw [show (os.length + 1) * 5 = os.length * 5 + 5 by omega]; exact this
      have n1 : wr.cell? ⟨g, (os.length + 1) * 5 + 1, none⟩ = some (.string ⟨#[114, 111, 111, 109]⟩) := by rw [e5]; exact hm 6 _ rfl
      have n2 : wr.cell? ⟨g, (os.length + 1) * 5 + 2, none⟩ = some (.string ⟨#[]⟩) := by rw [e5]; exact hm 7 _ rfl
      have n3 : wr.cell? ⟨g, (os.length + 1) * 5 + 3, none⟩ = some (.int .i64 0) := by rw [e5]; exact hm 8 _ rfl
      have n4 : wr.cell? ⟨g, (os.length + 1) * 5 + 4, none⟩ = some (.int .i64 0) := by rw [e5]; exact hm 9 _ rfl
      have hlt1 : (os.length : Int) < (os.length + 2 : Int) := by omega
      have hlt2 : (os.length + 1 : Int) < (os.length + 2 : Int) := by omega
      clear hm e5
      go_wp2_with fail
      go_ret
      exact ⟨rfl, HBk.out⟩
end Go.Proofs.YthelfbdkbldhjaaGreatDoor
