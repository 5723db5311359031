import Derived.Test.YtliafokjdngejaaGreatDoorTPlay1
import Derived.Test.YtliafokjdngejaaGreatDoorTKnown
namespace Go.Proofs.YtliafokjdngejaaGreatDoor
open Go.RowKit Go.Maps
set_option linter.unusedVariables false

/-- Nil, or a tree without nodes. -/
def NoTree (w : World) (t : Value) : Prop := t = .pointer none ∨ ∃ b, t = .pointer (some ⟨b, 0, none⟩) ∧ w.cell? ⟨b, 0, none⟩ = some (.map none) ∧ b < w.heap.size
theorem NoTree.below {w w' : World} {t : Value} (h : NoTree w t) (hb : Below w.heap.size w w') : NoTree w' t := by
  rcases h with h | ⟨b, h1, h2, h3⟩
  · exact .inl h
  · exact .inr ⟨b, h1, by rw [hb.cell (p := ⟨b, 0, none⟩) h3]; exact h2, Nat.lt_of_lt_of_le h3 hb.size⟩
theorem isNone_no {w : World} {t : Value} (h : NoTree w t) : Calls Tryz.prog 35 #[t] w fun e w' => e = .returned (.bool true) ∧ w' = w := by
  rcases h with rfl | ⟨b, rfl, h2, _⟩
  · exact isNone_nil w
  · exact isNone_at b none w h2

set_option maxHeartbeats 3200000 in
theorem mayPlay_no {w : World} {t : Value} (h : NoTree w t) (s st n : Int) : Calls Tryz.prog 27 #[t, .int .i64 s, .int .i64 st, .int .i64 n] w fun e w' => e = .returned (.int .i64 1) ∧ w' = w := by
  have HN : Hid _ := isNone_no h
  clear h
  go_enter Tryz.func27, Tryz.ntmps27
  go_wp2_with (first | (go_at_call 35; refine Calls.mono HN.out ?_; rintro e w1 ⟨rfl, rfl⟩) | fail)
  go_ret
  exact ⟨rfl, rfl⟩

set_option maxHeartbeats 3200000 in
theorem play_no {w : World} {t : Value} (h : NoTree w t) (s st : Int) (a : Option Addr) (n c : Nat) : Calls Tryz.prog 10 #[t, .int .i64 s, .int .i64 st, .slice a n c] w fun e w' => e = .returned (.tuple #[.agg #[.int .i64 st, .int .i64 1, .int .i64 0, .slice none 0 0], .slice none 0 0]) ∧ Below w.heap.size w w' := by
  have HM : Hid (∀ W, NoTree W t → Calls Tryz.prog 27 #[t, .int .i64 s, .int .i64 st, .int .i64 n] W fun e w' => e = .returned (.int .i64 1) ∧ w' = W) := fun W hW => mayPlay_no hW s st n
  have HN : Hid _ := h
  clear h
  go_enter Tryz.func10, Tryz.ntmps10
  go_wp2_with (first | (go_at_call 27; refine (HM.out _ (NoTree.below HN.out ((Below.refl _ _).alloc (Nat.le_refl _) _))).mono ?_; rintro e w1 ⟨rfl, rfl⟩) | fail)
  exact bodyPost_ret (results_cell_tmp rfl _ _ w.heap.size 28 _ (0, 0) _ (.slice none 0 0) rfl rfl (heap_alloc_new _ _) Tryz.underlying28 rfl (by kernel_rfl)) rfl ⟨rfl, (Below.refl _ _).alloc (Nat.le_refl _) _⟩

set_option maxHeartbeats 3200000 in
theorem end_no {w : World} {t : Value} (h : NoTree w t) (s : Int) : Calls Tryz.prog 15 #[t, .int .i64 s] w fun e w' => e = .returned (.slice none 0 0) ∧ Below w.heap.size w w' := by
  have HN : Hid _ := isNone_no h
  clear h
  go_enter Tryz.func15, Tryz.ntmps15
  go_wp2_with (first | (go_at_call 35; refine Calls.mono HN.out ?_; rintro e w1 ⟨rfl, rfl⟩) | fail)
  go_ret
  exact ⟨rfl, Below.refl _ _⟩

set_option maxHeartbeats 3200000 in
theorem part_no {w : World} {t : Value} (h : NoTree w t) (p : ByteArray) (k : Int) : Calls Tryz.prog 24 #[t, .string p, .int .i64 k] w fun e w' => e = .returned (.tuple #[.slice none 0 0, .int .i64 1]) ∧ Below w.heap.size w w' := by
  have HN : Hid _ := isNone_no h
  clear h
  go_enter Tryz.func24, Tryz.ntmps24
  go_wp2_with (first | (go_at_call 35; refine Calls.mono HN.out ?_; rintro e w1 ⟨rfl, rfl⟩) | fail)
  go_ret2
  exact ⟨rfl, Below.refl _ _⟩

set_option maxHeartbeats 3200000 in
theorem nodes_no {w : World} {t : Value} (h : NoTree w t) : Calls Tryz.prog 16 #[t] w fun e w' => e = .returned (.slice none 0 0) ∧ Below w.heap.size w w' := by
  have HN : Hid _ := isNone_no h
  clear h
  go_enter Tryz.func16, Tryz.ntmps16
  go_wp2_with (first | (go_at_call 35; refine Calls.mono HN.out ?_; rintro e w1 ⟨rfl, rfl⟩) | fail)
  go_ret
  exact ⟨rfl, Below.refl _ _⟩
end Go.Proofs.YtliafokjdngejaaGreatDoor
namespace Go.Proofs.YtliafokjdngejaaGreatDoor
open Go.RowKit Go.Maps
set_option linter.unusedVariables false
theorem results_cell2_tmp {P : Program} {fn : Func} {p p2 q : Tmp} {ty ty2 : TypeId} (h : fn.results = #[.cell p ty, .cell p2 ty2, .tmp q]) (tmps : Array Value) (w : World) (g g2 : Nat) (t t2 : TypeId) (cs cs2 : Array Value) (fr fr2 : Nat × Nat) (d d2 : TypeDesc) (v : Value)
    (hp : tmps.getD p undef = .pointer (some ⟨g, 0, none⟩)) (hp2 : tmps.getD p2 undef = .pointer (some ⟨g2, 0, none⟩)) (hq : tmps.getD q undef = v) (hg : w.heap[g]? = some (.cells cs t fr)) (hg2 : w.heap[g2]? = some (.cells cs2 t2 fr2))
    (hu : P.underlying ty = some d) (hd : (match d with | .struct _ | .array _ _ => true | _ => false) = true) (hi : (P.info? ty).map (·.size) = some cs.size)
    (hu2 : P.underlying ty2 = some d2) (hd2 : (match d2 with | .struct _ | .array _ _ => true | _ => false) = true) (hi2 : (P.info? ty2).map (·.size) = some cs2.size) :
    (results fn tmps).run P w = .ok (.tuple #[.agg cs, .agg cs2, v]) w := by
  have hp' : tmps[p]?.getD undef = .pointer (some ⟨g, 0, none⟩) := by simpa using hp
  have hp2' : tmps[p2]?.getD undef = .pointer (some ⟨g2, 0, none⟩) := by simpa using hp2
  have hq' : tmps[q]?.getD undef = v := by simpa using hq
  simp [results, h, hp', hp2', hq', asAddr, run_loadVar_row w g t ty cs fr d hg hu hd hi, run_loadVar_row w g2 t2 ty2 cs2 fr2 d2 hg2 hu2 hd2 hi2]
theorem heap_alloc_old {w : World} {o o' : Obj} {g : Nat} (h : w.heap[g]? = some o) : (w.alloc o').heap[g]? = some o := by
  have hl : g < w.heap.size := (Array.getElem?_eq_some_iff.1 h).1
  rw [← h]
  show (w.heap.push o')[g]? = w.heap[g]?
  rw [Array.getElem?_push_lt hl]
  exact (Array.getElem?_eq_getElem hl).symm
theorem heap_alloc_new' {w : World} {o : Obj} {g : Nat} (h : g = w.heap.size) : (w.alloc o).heap[g]? = some o := by
  subst h
  exact heap_alloc_new _ _
abbrev noR : Value := .agg #[.slice none 0 0]

end Go.Proofs.YtliafokjdngejaaGreatDoor
namespace Go.Proofs.YtliafokjdngejaaGreatDoor
open Go.RowKit Go.Maps
set_option linter.unusedVariables false
set_option linter.unusedSimpArgs false

theorem Tryz.infoO : (Tryz.prog.info? 33).map (fun i => (i.zero, i.size, i.bytes)) = some (some (.agg #[.int .i64 0, .string ⟨#[]⟩, .string ⟨#[]⟩, .int .i64 0, .int .i64 0]), 5, 56) := by kernel_rfl

structure OpT where
  k : Int
  p : ByteArray
  d : ByteArray
  v : Int
  f : Int
abbrev OpT.cells (o : OpT) : List Value := [.int .i64 o.k, .string o.p, .string o.d, .int .i64 o.v, .int .i64 o.f]
def opCs (os : List OpT) : List Value := (os.map OpT.cells).flatten
/-- The ops lie below base. -/
def OpsAt (w : World) (base : Nat) (a : Option Addr) (os : List OpT) : Prop :=
  ∀ i o, os[i]? = some o → ∃ b f, a = some ⟨b, f, none⟩ ∧ b < base ∧ ∀ j x, o.cells[j]? = some x → w.cell? ⟨b, f + i * 5 + j, none⟩ = some x
theorem chg_app {w wr w4 : World} {u dv : Value} {db : Nat} {o : Obj} (hC : Chg w wr (fun k => k = db ∨ dv.ownBlock = some k)) (hu : ∀ k, u.ownBlock = some k → dv.ownBlock = some k ∨ w.heap.size ≤ k) (hg : (wr.alloc o).grownBy w4 u.ownBlock) : Chg w w4 (fun k => k = db ∨ dv.ownBlock = some k) := by
  have h1 : Chg wr w4 (fun k => u.ownBlock = some k) := (Chg.alloc wr o _).trans (Chg.grown hg)
  refine ⟨h1.os.trans hC.os, h1.tape.trans hC.tape, h1.output.trans hC.output, Nat.le_trans hC.size h1.size, fun k hk hn => ?_⟩
  rw [h1.block k (Nat.lt_of_lt_of_le hk hC.size) (fun e => ?_), hC.block k hk hn]
  rcases hu k e with h | h
  · exact hn (.inr h)
  · omega
theorem own_app {w wr : World} {u dv : Value} {g H n c : Nat} (hu : ∀ k, u.ownBlock = some k → dv.ownBlock = some k ∨ w.heap.size ≤ k) (hat : u.ownBlock = some g ∨ g = H) (hH : w.heap.size ≤ H) : ∀ k, (Value.slice (some ⟨g, 0, none⟩) n c).ownBlock = some k → dv.ownBlock = some k ∨ w.heap.size ≤ k := by
  intro k hk
  simp only [Value.ownBlock, Option.some.injEq] at hk
  subst hk
  rcases hat with h | h
  · exact hu _ h
  · exact .inr (by omega)
end Go.Proofs.YtliafokjdngejaaGreatDoor
