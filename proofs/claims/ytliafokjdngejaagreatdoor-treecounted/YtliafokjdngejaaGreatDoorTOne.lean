import Derived.Test.YtliafokjdngejaaGreatDoorTPlay1
import Derived.Test.YtliafokjdngejaaGreatDoorTKnown
import Derived.Test.YtliafokjdngejaaGreatDoorCounted
import Derived.Test.YtliafokjdngejaaGreatDoorWay
import Derived.Test.YtliafokjdngejaaGreatDoorParent
import Derived.Test.YtliafokjdngejaaGreatDoorTMis
namespace Go.Proofs.YtliafokjdngejaaGreatDoor
open Go.RowKit Go.Maps
set_option linter.unusedVariables false

/-- Nil, or a tree without nodes. -/
def NoTree (w : World) (t : Value) : Prop := t = .pointer none ∨ ∃ b, t = .pointer (some ⟨b, 0, none⟩) ∧ w.cell? ⟨b, 0, none⟩ = some (.map none) ∧ b < w.heap.size
theorem NoTree.below {w w' : World} {t : Value} (h : NoTree w t) (hb : Below w.heap.size w w') : NoTree w' t := by
  rcases h with h | ⟨b, h1, h2, h3⟩
  · exact .inl h
  · exact .inr ⟨b, h1, by rw [hb.cell (p := ⟨b, 0, none⟩) h3]; exact h2, Nat.lt_of_lt_of_le h3 hb.size⟩
theorem isNone_no {w : World} {t : Value} (h : NoTree w t) : Calls Tryz.prog 35 #[t] w fun e w' => e = .returned (.bool true) ∧ w' = w := by
  rcases h with rfl | ⟨b, rfl, h2, _⟩
  · exact isNone_nil w
  · exact isNone_at b none w h2

set_option maxHeartbeats 3200000 in
theorem mayPlay_no {w : World} {t : Value} (h : NoTree w t) (s st n : Int) : Calls Tryz.prog 27 #[t, .int .i64 s, .int .i64 st, .int .i64 n] w fun e w' => e = .returned (.int .i64 1) ∧ w' = w := by
  have HN : Hid _ := isNone_no h
  clear h
  go_enter Tryz.func27, Tryz.ntmps27
  go_wp2_with (first | (go_at_call 35; refine Calls.mono HN.out ?_; rintro e w1 ⟨rfl, rfl⟩) | fail)
  go_ret
  exact ⟨rfl, rfl⟩

set_option maxHeartbeats 3200000 in
theorem play_no {w : World} {t : Value} (h : NoTree w t) (s st : Int) (a : Option Addr) (n c : Nat) : Calls Tryz.prog 10 #[t, .int .i64 s, .int .i64 st, .slice a n c] w fun e w' => e = .returned (.tuple #[.agg #[.int .i64 st, .int .i64 1, .int .i64 0, .slice none 0 0], .slice none 0 0]) ∧ Below w.heap.size w w' := by
  have HM : Hid (∀ W, NoTree W t → Calls Tryz.prog 27 #[t, .int .i64 s, .int .i64 st, .int .i64 n] W fun e w' => e = .returned (.int .i64 1) ∧ w' = W) := fun W hW => mayPlay_no hW s st n
  have HN : Hid _ := h
  clear h
  go_enter Tryz.func10, Tryz.ntmps10
  go_wp2_with (first | (go_at_call 27; refine (HM.out _ (NoTree.below HN.out ((Below.refl _ _).alloc (Nat.le_refl _) _))).mono ?_; rintro e w1 ⟨rfl, rfl⟩) | fail)
  exact bodyPost_ret (results_cell_tmp rfl _ _ w.heap.size 28 _ (0, 0) _ (.slice none 0 0) rfl rfl (heap_alloc_new _ _) Tryz.underlying28 rfl (by kernel_rfl)) rfl ⟨rfl, (Below.refl _ _).alloc (Nat.le_refl _) _⟩

set_option maxHeartbeats 3200000 in
theorem end_no {w : World} {t : Value} (h : NoTree w t) (s : Int) : Calls Tryz.prog 15 #[t, .int .i64 s] w fun e w' => e = .returned (.slice none 0 0) ∧ Below w.heap.size w w' := by
  have HN : Hid _ := isNone_no h
  clear h
  go_enter Tryz.func15, Tryz.ntmps15
  go_wp2_with (first | (go_at_call 35; refine Calls.mono HN.out ?_; rintro e w1 ⟨rfl, rfl⟩) | fail)
  go_ret
  exact ⟨rfl, Below.refl _ _⟩

set_option maxHeartbeats 3200000 in
theorem part_no {w : World} {t : Value} (h : NoTree w t) (p : ByteArray) (k : Int) : Calls Tryz.prog 24 #[t, .string p, .int .i64 k] w fun e w' => e = .returned (.tuple #[.slice none 0 0, .int .i64 1]) ∧ Below w.heap.size w w' := by
  have HN : Hid _ := isNone_no h
  clear h
  go_enter Tryz.func24, Tryz.ntmps24
  go_wp2_with (first | (go_at_call 35; refine Calls.mono HN.out ?_; rintro e w1 ⟨rfl, rfl⟩) | fail)
  go_ret2
  exact ⟨rfl, Below.refl _ _⟩

set_option maxHeartbeats 3200000 in
theorem nodes_no {w : World} {t : Value} (h : NoTree w t) : Calls Tryz.prog 16 #[t] w fun e w' => e = .returned (.slice none 0 0) ∧ Below w.heap.size w w' := by
  have HN : Hid _ := isNone_no h
  clear h
  go_enter Tryz.func16, Tryz.ntmps16
  go_wp2_with (first | (go_at_call 35; refine Calls.mono HN.out ?_; rintro e w1 ⟨rfl, rfl⟩) | fail)
  go_ret
  exact ⟨rfl, Below.refl _ _⟩
end Go.Proofs.YtliafokjdngejaaGreatDoor
namespace Go.Proofs.YtliafokjdngejaaGreatDoor
open Go.RowKit Go.Maps
set_option linter.unusedVariables false
theorem results_cell2_tmp {P : Program} {fn : Func} {p p2 q : Tmp} {ty ty2 : TypeId} (h : fn.results = #[.cell p ty, .cell p2 ty2, .tmp q]) (tmps : Array Value) (w : World) (g g2 : Nat) (t t2 : TypeId) (cs cs2 : Array Value) (fr fr2 : Nat × Nat) (d d2 : TypeDesc) (v : Value)
    (hp : tmps.getD p undef = .pointer (some ⟨g, 0, none⟩)) (hp2 : tmps.getD p2 undef = .pointer (some ⟨g2, 0, none⟩)) (hq : tmps.getD q undef = v) (hg : w.heap[g]? = some (.cells cs t fr)) (hg2 : w.heap[g2]? = some (.cells cs2 t2 fr2))
    (hu : P.underlying ty = some d) (hd : (match d with | .struct _ | .array _ _ => true | _ => false) = true) (hi : (P.info? ty).map (·.size) = some cs.size)
    (hu2 : P.underlying ty2 = some d2) (hd2 : (match d2 with | .struct _ | .array _ _ => true | _ => false) = true) (hi2 : (P.info? ty2).map (·.size) = some cs2.size) :
    (results fn tmps).run P w = .ok (.tuple #[.agg cs, .agg cs2, v]) w := by
  have hp' : tmps[p]?.getD undef = .pointer (some ⟨g, 0, none⟩) := by simpa using hp
  have hp2' : tmps[p2]?.getD undef = .pointer (some ⟨g2, 0, none⟩) := by simpa using hp2
  have hq' : tmps[q]?.getD undef = v := by simpa using hq
  simp [results, h, hp', hp2', hq', asAddr, run_loadVar_row w g t ty cs fr d hg hu hd hi, run_loadVar_row w g2 t2 ty2 cs2 fr2 d2 hg2 hu2 hd2 hi2]
theorem heap_alloc_old {w : World} {o o' : Obj} {g : Nat} (h : w.heap[g]? = some o) : (w.alloc o').heap[g]? = some o := by
  have hl : g < w.heap.size := (Array.getElem?_eq_some_iff.1 h).1
  rw [← h]
  show (w.heap.push o')[g]? = w.heap[g]?
  rw [Array.getElem?_push_lt hl]
  exact (Array.getElem?_eq_getElem hl).symm
theorem heap_alloc_new' {w : World} {o : Obj} {g : Nat} (h : g = w.heap.size) : (w.alloc o).heap[g]? = some o := by
  subst h
  exact heap_alloc_new _ _
abbrev noR : Value := .agg #[.slice none 0 0]

end Go.Proofs.YtliafokjdngejaaGreatDoor
namespace Go.Proofs.YtliafokjdngejaaGreatDoor
open Go.RowKit Go.Maps
set_option linter.unusedVariables false
set_option linter.unusedSimpArgs false

theorem Tryz.infoO : (Tryz.prog.info? 33).map (fun i => (i.zero, i.size, i.bytes)) = some (some (.agg #[.int .i64 0, .string ⟨#[]⟩, .string ⟨#[]⟩, .int .i64 0, .int .i64 0]), 5, 56) := by kernel_rfl

structure OpT where
  k : Int
  p : ByteArray
  d : ByteArray
  v : Int
  f : Int
abbrev OpT.cells (o : OpT) : List Value := [.int .i64 o.k, .string o.p, .string o.d, .int .i64 o.v, .int .i64 o.f]
def opCs (os : List OpT) : List Value := (os.map OpT.cells).flatten
/-- The ops lie below base. -/
def OpsAt (w : World) (base : Nat) (a : Option Addr) (os : List OpT) : Prop :=
  ∀ i o, os[i]? = some o → ∃ b f, a = some ⟨b, f, none⟩ ∧ b < base ∧ ∀ j x, o.cells[j]? = some x → w.cell? ⟨b, f + i * 5 + j, none⟩ = some x
theorem chg_app {w wr w4 : World} {u dv : Value} {db : Nat} {o : Obj} (hC : Chg w wr (fun k => k = db ∨ dv.ownBlock = some k)) (hu : ∀ k, u.ownBlock = some k → dv.ownBlock = some k ∨ w.heap.size ≤ k) (hg : (wr.alloc o).grownBy w4 u.ownBlock) : Chg w w4 (fun k => k = db ∨ dv.ownBlock = some k) := by
  have h1 : Chg wr w4 (fun k => u.ownBlock = some k) := (Chg.alloc wr o _).trans (Chg.grown hg)
  refine ⟨h1.os.trans hC.os, h1.tape.trans hC.tape, h1.output.trans hC.output, Nat.le_trans hC.size h1.size, fun k hk hn => ?_⟩
  rw [h1.block k (Nat.lt_of_lt_of_le hk hC.size) (fun e => ?_), hC.block k hk hn]
  rcases hu k e with h | h
  · exact hn (.inr h)
  · omega
theorem own_app {w wr : World} {u dv : Value} {g H n c : Nat} (hu : ∀ k, u.ownBlock = some k → dv.ownBlock = some k ∨ w.heap.size ≤ k) (hat : u.ownBlock = some g ∨ g = H) (hH : w.heap.size ≤ H) : ∀ k, (Value.slice (some ⟨g, 0, none⟩) n c).ownBlock = some k → dv.ownBlock = some k ∨ w.heap.size ≤ k := by
  intro k hk
  simp only [Value.ownBlock, Option.some.injEq] at hk
  subst hk
  rcases hat with h | h
  · exact hu _ h
  · exact .inr (by omega)
end Go.Proofs.YtliafokjdngejaaGreatDoor
namespace Go.Proofs.YtliafokjdngejaaGreatDoor
open Go.RowKit
set_option linter.unusedVariables false
set_option linter.unusedSimpArgs false

theorem dig_nat {d : Nat} (h : d < 10) : (UInt8.ofNat (48 + d)).toNat = 48 + d := by
  rw [UInt8.toNat_ofNat']
  omega
theorem five_name (n : Nat) : ∀ b ∈ five n, nameB b = true := by
  have h : ∀ d, d < 10 → nameB (UInt8.ofNat (48 + d)) = true := fun d hd => by
    have e := dig_nat hd
    unfold nameB
    rw [e]
    simp
    omega
  intro b hb
  simp only [five, List.mem_cons, List.not_mem_nil, or_false] at hb
  rcases hb with rfl | rfl | rfl | rfl | rfl <;> exact h _ (by omega)
theorem nm_counted {x : ByteArray} (hx : isNm x = true) (hl : x.size ≤ 11) (n : Nat) : isNm (mk (x.data.toList ++ five n)) = true := by
  simp only [isNm, Bool.and_eq_true, decide_eq_true_eq] at hx
  have h5 : (five n).length = 5 := rfl
  have hxl : x.data.toList.length = x.size := by simp
  have hx1 := hx.1.1.1.1
  have hsz : (mk (x.data.toList ++ five n)).size = x.size + 5 := by rw [size_mk, List.length_append, h5, hxl]
  have hall : (x.data.toList ++ five n).all nameB = true := by
    rw [List.all_append, hx.2, Bool.true_and, List.all_eq_true]
    exact five_name n
  have hne1 : ((x.data.toList ++ five n) == [46]) = false := by
    rw [beq_eq_false_iff_ne]
    intro e
    have := congrArg List.length e
    rw [List.length_append, h5] at this
    simp at this
  have hne2 : ((x.data.toList ++ five n) == [46, 46]) = false := by
    rw [beq_eq_false_iff_ne]
    intro e
    have := congrArg List.length e
    rw [List.length_append, h5] at this
    simp at this
  simp only [isNm, hsz, data_mk, hall, hne1, hne2]
  simp
  omega

theorem counted_parse {s : ByteArray} {xs : List ByteArray} (h : parse s = (0, xs)) (k : Nat) (hk : xs.length = k + 1) (x : ByteArray) (hx : xs[k]? = some x) (hl : x.size ≤ 11) (n : Nat) :
    parse (mk (s.data.toList ++ five n)) = (0, xs.take k ++ [mk (x.data.toList ++ five n)]) := by
  have hp := parse_len h
  have hxn : isNm x = true := by
    have := hp.2
    rw [List.all_eq_true] at this
    exact this x (List.mem_of_getElem? hx)
  have hxs : xs = xs.take k ++ [x] := by
    have := List.take_add_one (l := xs) (i := k)
    rw [hx, ← hk, List.take_length] at this
    exact this
  have hne : xs ≠ [] := by rintro rfl; simp at hk
  have ht : s.data.toList = flatN (xs.take k) ++ 47 :: x.data.toList := by
    rw [← parse_back h, placeB, if_neg hne, data_mk]
    conv => lhs; rw [hxs]
    simp [flatN]
  have hall : (xs.take k ++ [mk (x.data.toList ++ five n)]).all isNm = true := by
    rw [List.all_append, all_take hp.2 k]
    simp [nm_counted hxn hl n]
  have hlen : (xs.take k ++ [mk (x.data.toList ++ five n)]).length ≤ 6 := by
    rw [List.length_append, List.length_take]
    simp
    omega
  have hpl := parse_place hlen hall
  have e : placeB (xs.take k ++ [mk (x.data.toList ++ five n)]) = mk (s.data.toList ++ five n) := by
    rw [placeB, if_neg (by simp), ht]
    congr 1
    simp [flatN, data_mk]
  rw [e] at hpl
  exact hpl

end Go.Proofs.YtliafokjdngejaaGreatDoor
namespace Go.Proofs.YtliafokjdngejaaGreatDoor
open Go.RowKit Go.Maps Go.WideShapes
set_option linter.unusedVariables false
set_option linter.unusedSimpArgs false

/-- A result, a change. -/
structure ResT where
  p : ByteArray
  d : ByteArray
  v : Int
  m : Int
  c : Int
  o : Int
  kids : List ByteArray
abbrev zr : ResT := ⟨⟨#[]⟩, ⟨#[]⟩, 0, 0, 0, 0, []⟩
structure ChT where
  k : Int
  p : ByteArray
  d : ByteArray
  v : Int
abbrev ChT.cells (x : ChT) : List Value := [.int .i64 x.k, .string x.p, .string x.d, .int .i64 x.v]
def chCs (l : List ChT) : List Value := l.flatMap ChT.cells
/-- The node at a place. -/
def fnd (T : List Nd) (s : ByteArray) : Option Nd := T.find? (fun x => decide (x.p = s))
/-- A node turned, at its place. -/
def upd (T : List Nd) (y : Nd) : List Nd := T.map (fun x => if x.p = y.p then y else x)
/-- A node more, in the order. -/
def ins (n : Nd) : List Nd → List Nd
  | [] => [n]
  | x :: r => if O n.p x.p = -1 then n :: x :: r else x :: ins n r
def atOf (p : ByteArray) (f k : Int) : ByteArray := if 2 ≤ f then mk (p.data.toList ++ five k.toNat) else p
theorem fnd_some {T : List Nd} {s : ByteArray} {x : Nd} (h : fnd T s = some x) : x ∈ T ∧ x.p = s := ⟨List.mem_of_find?_eq_some h, by simpa using List.find?_some h⟩
theorem fnd_none {T : List Nd} {s : ByteArray} (h : fnd T s = none) : ∀ x ∈ T, x.p ≠ s := fun x hx e => by
  have := List.find?_eq_none.1 h x hx
  simp [e] at this
theorem Rep.has_fnd {D : DataW Value} {T : List Nd} (h : Rep D T) (s : ByteArray) : Maps.has D (ky s) = (fnd T s).isSome := by
  cases hf : fnd T s with
  | none =>
    cases hh : Maps.has D (ky s) with
    | false => rfl
    | true =>
      obtain ⟨x, hx, e⟩ := (h.has s).1 hh
      exact absurd e (fnd_none hf x hx)
  | some x => exact (h.has s).2 ⟨x, (fnd_some hf).1, (fnd_some hf).2⟩
theorem Rep.look_fnd {D : DataW Value} {T : List Nd} (h : Rep D T) {s : ByteArray} {x : Nd} (hf : fnd T s = some x) : Go.Proofs.YtliafokjdngejaaGreatDoor.look D s = x.V := by
  rw [← (fnd_some hf).2]
  exact h.look x (fnd_some hf).1
theorem Rep.look_none {D : DataW Value} {T : List Nd} (h : Rep D T) {s : ByteArray} (hf : fnd T s = none) : Go.Proofs.YtliafokjdngejaaGreatDoor.look D s = zf := by
  have h1 := h.has_fnd s
  rw [hf] at h1
  unfold Go.Proofs.YtliafokjdngejaaGreatDoor.look
  rw [atKey_of_not_has h1]
theorem upd_map (T : List Nd) (y : Nd) : (upd T y).map Nd.p = T.map Nd.p := by
  unfold upd
  rw [List.map_map]
  apply List.map_congr_left
  intro x _
  simp only [Function.comp]
  split
  · rename_i h; exact h.symm
  · rfl
theorem upd_len (T : List Nd) (y : Nd) : (upd T y).length = T.length := by simp [upd]
theorem upd_perm {T : List Nd} {y : Nd} (hnd : (T.map Nd.p).Nodup) (hy : ∃ u ∈ T, u.p = y.p) : (upd T y).Perm (y :: T.filter (fun x => decide (x.p ≠ y.p))) := by
  induction T with
  | nil => obtain ⟨u, hu, _⟩ := hy; cases hu
  | cons x r ih =>
    rw [List.map_cons, List.nodup_cons] at hnd
    by_cases hx : x.p = y.p
    · have hr : r.filter (fun x => decide (x.p ≠ y.p)) = r := List.filter_eq_self.2 (fun z hz => by
        have : z.p ≠ y.p := fun e => hnd.1 (by rw [hx, ← e]; exact List.mem_map_of_mem hz)
        simpa using this)
      have hu : upd r y = r := by
        unfold upd
        conv => rhs; rw [← List.map_id r]
        apply List.map_congr_left
        intro z hz
        have : z.p ≠ y.p := fun e => hnd.1 (by rw [hx, ← e]; exact List.mem_map_of_mem hz)
        simp [this]
      have e1 : upd (x :: r) y = y :: upd r y := by simp [upd, hx]
      rw [e1, hu, List.filter_cons, if_neg (by simp [hx]), hr]
    · have e1 : upd (x :: r) y = x :: upd r y := by simp [upd, hx]
      have e2 : (x :: r).filter (fun x => decide (x.p ≠ y.p)) = x :: r.filter (fun x => decide (x.p ≠ y.p)) := by rw [List.filter_cons, if_pos (by simpa using hx)]
      obtain ⟨u, hu, hup⟩ := hy
      have hur : u ∈ r := by
        rcases List.mem_cons.1 hu with rfl | hu
        · exact absurd hup hx
        · exact hu
      rw [e1, e2]
      exact ((ih hnd.2 ⟨u, hur, hup⟩).cons x).trans (List.Perm.swap _ _ _)
theorem ins_perm (n : Nd) : ∀ T : List Nd, (ins n T).Perm (n :: T)
  | [] => List.Perm.refl _
  | x :: r => by
    unfold ins
    split
    · exact List.Perm.refl _
    · exact ((ins_perm n r).cons x).trans (List.Perm.swap _ _ _)
theorem ins_len (n : Nd) (T : List Nd) : (ins n T).length = T.length + 1 := by rw [(ins_perm n T).length_eq]; rfl
theorem Srt.of_map {T U : List Nd} (h : Srt T) (e : U.map Nd.p = T.map Nd.p) : Srt U := by
  have h1 : (T.map Nd.p).Pairwise (fun a b => O a b = -1) := List.pairwise_map.2 h
  rw [← e] at h1
  exact List.pairwise_map.1 h1
theorem Srt.upd {T : List Nd} (h : Srt T) (y : Nd) : Srt (upd T y) := h.of_map (upd_map T y)
theorem Srt.ins {n : Nd} : ∀ {T : List Nd}, Srt T → (∀ x ∈ T, x.p ≠ n.p) → Srt (ins n T)
  | [], _, _ => List.pairwise_singleton _ _
  | x :: r, h, hn => by
    obtain ⟨h1, h2⟩ := List.pairwise_cons.1 h
    unfold Go.Proofs.YtliafokjdngejaaGreatDoor.ins
    split
    · rename_i hlt
      refine List.pairwise_cons.2 ⟨fun z hz => ?_, h⟩
      rcases List.mem_cons.1 hz with rfl | hz
      · exact hlt
      · exact O_trans hlt (h1 z hz)
    · rename_i hlt
      refine List.pairwise_cons.2 ⟨fun z hz => ?_, Srt.ins h2 (fun z hz => hn z (List.mem_cons_of_mem _ hz))⟩
      rcases List.mem_cons.1 ((ins_perm n r).mem_iff.1 hz) with rfl | hz
      · rcases O_range z.p x.p with e | e | e
        · exact absurd e hlt
        · exact absurd (O_zero e).symm (hn x List.mem_cons_self)
        · rw [O_anti z.p x.p, e]
      · exact h1 z hz
/-- A tree that may be. -/
structure Inv (T : List Nd) : Prop where
  srt : Srt T
  len : T.length ≤ 64
  nd : ∀ x ∈ T, (parse x.p).1 = 0 ∧ x.d.size ≤ 64 ∧ 0 ≤ x.v ∧ x.v ≤ 2147483647 ∧ 0 ≤ x.k ∧ x.k ≤ 100000
theorem size_of_parse {s : ByteArray} (h : (parse s).1 = 0) : s.size ≤ 102 := parse_size (xs := (parse s).2) (by rw [← h])
theorem Inv.sml {T : List Nd} (h : Inv T) : Sml T := fun x hx => ⟨Nat.le_trans (size_of_parse (h.nd x hx).1) (by decide), Nat.le_trans (h.nd x hx).2.1 (by decide)⟩
/-- One op: its code, the nodes behind it, the result, the changes. -/
def makeM (T : List Nd) (s st : Int) (o : OpT) : Int × List Nd × ResT × List ChT :=
  match fnd T (parB o.p) with
  | none => (40, T, zr, [])
  | some u =>
    if u.o ≠ 0 then (44, T, zr, []) else
    if 2 ≤ o.f ∧ 99999 < u.k then (46, T, zr, []) else
    if (fnd T (atOf o.p o.f u.k)).isSome then (41, T, zr, []) else
    if 64 ≤ T.length then (46, T, zr, []) else
    (0, ins ⟨atOf o.p o.f u.k, o.d, 0, st, st, if o.f % 2 = 1 then s else 0, 0⟩ (upd T { u with k := if 2 ≤ o.f then u.k + 1 else u.k }), ⟨atOf o.p o.f u.k, ⟨#[]⟩, 0, st, st, if o.f % 2 = 1 then s else 0, []⟩, [⟨1, atOf o.p o.f u.k, o.d, 0⟩])
def restM (T : List Nd) (st : Int) (o : OpT) (x : Nd) : List Nd × ResT × List ChT :=
  if o.k = 2 then (upd T { x with d := o.d, v := x.v + 1, c := st }, ⟨x.p, ⟨#[]⟩, x.v + 1, x.m, st, x.o, []⟩, [⟨2, x.p, o.d, x.v + 1⟩]) else
  if o.k = 3 then (T.filter (fun y => decide (y.p ≠ x.p)), ⟨x.p, ⟨#[]⟩, 0, 0, 0, 0, []⟩, [⟨3, x.p, ⟨#[]⟩, x.v⟩]) else
  (T, ⟨x.p, if o.k = 5 then x.d else ⟨#[]⟩, x.v, x.m, x.c, x.o, if o.k = 7 then kidsM T x.p else []⟩, [])
def oneM (T : List Nd) (s st : Int) (o : OpT) : Int × List Nd × ResT × List ChT :=
  if malC s o.k o.p o.d o.f ≠ 0 then (malC s o.k o.p o.d o.f, T, zr, []) else
  if o.k = 1 then makeM T s st o else
  match fnd T o.p with
  | none => (40, T, zr, [])
  | some x => if misC o.k o.v x.v (kidsM T x.p) ≠ 0 then (misC o.k o.v x.v (kidsM T x.p), T, zr, []) else (0, restM T st o x)
end Go.Proofs.YtliafokjdngejaaGreatDoor
