/-
  shot: change, changesOf.
-/
import Derived.Test.YtbamkdohaofgdaaGreatDoorDBase
import Derived.Test.YtbamkdohaofgdaaGreatDoorCMay
namespace Go.Proofs.YtbamkdohaofgdaaGreatDoor
open Go.RowKit
set_option linter.unusedVariables false
set_option linter.unusedSimpArgs false

abbrev chA (c : ChT) : Array Value := #[.int .i64 c.k, .string c.p, .string c.d, .int .i64 c.v]
theorem hs_one {w : World} {g : Nat} {c : ChT} (h : w.heap[g]? = some (.cells (chA c) 46 (0, 0))) : Hs w (some ⟨g, 0, none⟩) [c] := by
  refine .inr ⟨g, 0, rfl, lt_of_blk h, fun i s hi j x hx => ?_⟩
  cases i with
  | zero =>
    simp only [List.getElem?_cons_zero, Option.some.injEq] at hi
    subst hi
    unfold World.cell?
    simp only [h, Nat.zero_mul, Nat.zero_add]
    rw [← hx]
    simp [ChT.cells, chA]
  | succ i => simp at hi
theorem sclone_any (s : ByteArray) (hs : s.size ≤ 281474976710656) (w : World) :
    Calls Tryz.prog 17 #[.string s] w fun e w' => e = .returned (.string s) ∧ Below w.heap.size w w' := by
  go_enter Tryz.func17, Tryz.ntmps17
  go_wp2_with (first | (go_at_call 35; refine (Tryz.stringslite_Clone s _ hs).mono ?_; rintro e w1 ⟨rfl, hb⟩) | fail)
  go_ret
  exact ⟨rfl, hb⟩
set_option maxHeartbeats 3200000 in
set_option maxRecDepth 100000 in
theorem change_any (k : Int) (x : SeenT) (w : World) (hp : x.p.size ≤ 281474976710656) (hd : x.d.size ≤ 281474976710656) :
    Calls Tryz.prog 34 #[.int .i64 k, .agg (seC x)] w fun e w' => e = .returned (.agg (chA (chC k x))) ∧ Below w.heap.size w w' := by
  obtain ⟨p, d, v⟩ := x
  have HP : Hid (∀ w, Calls Tryz.prog 17 #[.string p] w fun e w' => e = .returned (.string p) ∧ Below w.heap.size w w') := sclone_any p hp
  have HD : Hid (∀ w, Calls Tryz.prog 17 #[.string d] w fun e w' => e = .returned (.string d) ∧ Below w.heap.size w w') := sclone_any d hd
  clear hp hd
  have HB0 : Hid (Below w.heap.size w ((w.alloc (.cells #[.string p, .string d, .int .i64 v] 52)).alloc (.cells #[.int .i64 0, .string ⟨#[]⟩, .string ⟨#[]⟩, .int .i64 0] 46))) := ((Below.refl _ _).alloc (Nat.le_refl _) _).alloc (by simp) _
  have HX0 : Hid (((w.alloc (.cells #[.string p, .string d, .int .i64 v] 52)).alloc (.cells #[.int .i64 0, .string ⟨#[]⟩, .string ⟨#[]⟩, .int .i64 0] 46)).heap[w.heap.size]? = some (.cells #[.string p, .string d, .int .i64 v] 52 (0, 0))) := new_old (heap_alloc_new _ _) _
  have HR0 : Hid (((w.alloc (.cells #[.string p, .string d, .int .i64 v] 52)).alloc (.cells #[.int .i64 0, .string ⟨#[]⟩, .string ⟨#[]⟩, .int .i64 0] 46)).heap[w.heap.size + 1]? = some (.cells #[.int .i64 0, .string ⟨#[]⟩, .string ⟨#[]⟩, .int .i64 0] 46 (0, 0))) := heap_new' (by simp)
  by_cases hk : k = 3
  · subst hk
    go_enter Tryz.func34, Tryz.ntmps34
    go_wp2_with fail
    refine (HP.out _).mono ?_
    rintro e w1 ⟨rfl, hb1⟩
    have HB1 : Hid (Below w.heap.size w w1) := trans2 HB0.out hb1
    have HR1 : Hid _ := kept_block hb1 HR0.out
    have r4 := cells_4 HR1.out
    have f4 := free_4 HR1.out
    clear hb1
    go_wp2_with fail
    exact bodyPost_ret (results_cell_row rfl _ _ (w.heap.size + 1) 46 _ (0, 0) _ rfl (fill_4 HR1.out) Tryz.underlying46 rfl (by kernel_rfl)) rfl ⟨rfl, fillB_4 HB1.out (by omega)⟩
  · have HC : Hid (chC k ⟨p, d, v⟩ = ⟨k, p, d, v⟩) := by show _ = _; unfold chC; rw [if_neg hk]
    go_enter Tryz.func34, Tryz.ntmps34
    go_wp2_with fail
    obtain ⟨x0, x1, x2⟩ := cells_3 HX0.out
    go_region_held3 (fun w' => w'.cell? ⟨w.heap.size, 0, none⟩ = some (.string p) ∧ w'.cell? ⟨w.heap.size, 1, none⟩ = some (.string d) ∧ w'.cell? ⟨w.heap.size, 2, none⟩ = some (.int .i64 v)) (first | exact ⟨x0, x1, x2⟩ | go_keep)
      (first
      | (go_at_call 17; refine (HD.out _).mono ?_; rintro e w2 ⟨rfl, hb2⟩
         have HB2 : Hid (Below w.heap.size w w2) := trans2 HB1.out hb2
         have HX2 : Hid _ := kept_block hb2 HX1.out
         have HR2 : Hid _ := kept_block hb2 HR1.out
         clear hb2 x0 x1 x2
         obtain ⟨x0, x1, x2⟩ := cells_3 HX2.out
         have r4 := cells_4 HR2.out
         have f4 := free_4 HR2.out)
      | (go_at_call 17; refine (HP.out _).mono ?_; rintro e w1 ⟨rfl, hb1⟩
         have HB1 : Hid (Below w.heap.size w w1) := trans2 HB0.out (of_drew hb1)
         have HX1 : Hid _ := kept_block (W := World.drew _) hb1 HX0.out
         have HR1 : Hid _ := kept_block (W := World.drew _) hb1 HR0.out
         clear hb1 x0 x1 x2
         obtain ⟨x0, x1, x2⟩ := cells_3 HX1.out)
      | fail)
    go_wp2_with fail
    exact bodyPost_ret (results_cell_row rfl _ _ (w.heap.size + 1) 46 _ (0, 0) _ rfl (fill_4 HR2.out) Tryz.underlying46 rfl (by kernel_rfl)) rfl ⟨by rw [HC.out], fillB_4 HB2.out (by omega)⟩
/-- Both lists of a parting. -/
structure PS (w0 wr : World) (vg vt : Value) (G T : List ChT) : Prop where
  g : wr.ownsRow w0.heap.size 46 4 vg G.length (chCs G)
  t : wr.ownsRow w0.heap.size 46 4 vt T.length (chCs T)
  ne : ∀ k, vg.ownBlock = some k → vt.ownBlock = some k → False
  low : Below w0.heap.size w0 wr
theorem PS.below {w0 wr w' : World} {vg vt : Value} {G T : List ChT} (h : PS w0 wr vg vt G T) (hb : Below wr.heap.size wr w') : PS w0 w' vg vt G T := ⟨owns_below h.g hb, owns_below h.t hb, h.ne, trans2 h.low hb⟩
theorem PS.gone {w0 wr w' : World} {vg vg' vt : Value} {G G' T : List ChT} (h : PS w0 wr vg vt G T) (ho : w'.ownsRow w0.heap.size 46 4 vg' G'.length (chCs G')) (hg : wr.grownBy w' vg.ownBlock) (hat : vg'.ownBlock = vg.ownBlock ∨ vg'.ownBlock = some wr.heap.size) : PS w0 w' vg' vt G' T := by
  refine ⟨ho, owns_same h.t (fun k hk => hg.block k (h.t.lt k hk).2 (fun e => h.ne k e.symm hk)), fun k hk hk' => ?_, h.low.trans ((Below.refl _ _).grown hg h.low.size (fun j hj => (h.g.lt j hj).1))⟩
  rcases hat with e | e
  · exact h.ne k (by rw [← e]; exact hk) hk'
  · have := (h.t.lt k hk').2
    rw [e] at hk
    cases hk
    omega
theorem PS.turned {w0 wr w' : World} {vg vt' vt : Value} {G T' T : List ChT} (h : PS w0 wr vg vt G T) (ho : w'.ownsRow w0.heap.size 46 4 vt' T'.length (chCs T')) (hg : wr.grownBy w' vt.ownBlock) (hat : vt'.ownBlock = vt.ownBlock ∨ vt'.ownBlock = some wr.heap.size) : PS w0 w' vg vt' G T' := by
  refine ⟨owns_same h.g (fun k hk => hg.block k (h.g.lt k hk).2 (fun e => h.ne k hk e.symm)), ho, fun k hk' hk => ?_, h.low.trans ((Below.refl _ _).grown hg h.low.size (fun j hj => (h.t.lt j hj).1))⟩
  rcases hat with e | e
  · exact h.ne k hk' (by rw [← e]; exact hk)
  · have := (h.g.lt k hk').2
    rw [e] at hk
    cases hk
    omega
theorem chCs_snoc (l : List ChT) (c : ChT) : chCs (l ++ [c]) = chCs l ++ c.cells := by simp [chCs]
set_option maxHeartbeats 3200000 in
set_option maxRecDepth 100000 in
theorem changesOf_any (k : Int) (a : Option Addr) (c n : Nat) (l : List SeenT) (w : World) (hs : Ss w a l) (hn : l.length = n) (hl : n ≤ 1000) (hok : ∀ x ∈ l, x.p.size ≤ 1000 ∧ x.d.size ≤ 1000) :
    Calls Tryz.prog 32 #[.int .i64 k, .slice a n c] w fun e w' => ∃ v, e = .returned v ∧ w'.ownsRow w.heap.size 46 4 v n (chCs (l.map (chC k))) ∧ Below w.heap.size w w' := by
  have HS : Hid (Ss w a l) := hs
  have HOK : Hid (∀ x ∈ l, x.p.size ≤ 1000 ∧ x.d.size ≤ 1000) := hok
  have HN : Hid (l.length = n) := hn
  clear hs hok hn
  go_enter Tryz.func32, Tryz.ntmps32
  go_wp2_with fail
  go_loopw [5, 10] (fun v i wr => ∃ q : Nat, i = .int .i64 q ∧ q ≤ n ∧ Hid (wr.ownsRow w.heap.size 46 4 v q (chCs ((l.take q).map (chC k)))) ∧ Hid (Below w.heap.size w wr)) (fun _ i _ => n - (intOf i).toNat)
  case atStart => exact ⟨0, rfl, Nat.zero_le _, World.ownsRow_nil _ _ _ _, Below.refl _ _⟩
  case round =>
    obtain ⟨q, rfl, hq, HO, HB⟩ := hrel
    by_cases hlt : q < n
    · have hlt' : (q : Int) < (n : Int) := by omega
      obtain ⟨x, hx⟩ : ∃ x, l[q]? = some x := ⟨l[q]'(by rw [HN.out]; exact hlt), List.getElem?_eq_getElem _⟩
      obtain ⟨b, o, rfl, hb, x0, x1, x2⟩ := (HS.out.below HB.out).at hx
      have HX : Hid (l[q]? = some x) := hx
      obtain ⟨e1, e2⟩ := HOK.out x (List.mem_of_getElem? hx)
      have HCH : Hid (∀ w, Calls Tryz.prog 34 #[.int .i64 k, .agg (seC x)] w fun e w' => e = .returned (.agg (chA (chC k x))) ∧ Below w.heap.size w w') := fun w => change_any k x w (by omega) (by omega)
      obtain ⟨C, hC⟩ : ∃ C, chC k x = C := ⟨_, rfl⟩
      rw [hC] at HCH
      have HC : Hid (chC k x = C) := hC
      have HN1 : Hid ((wr.alloc (.cells (seC x) 52)).heap[wr.heap.size]? = some (.cells (seC x) 52 (0, 0))) := heap_alloc_new _ _
      have HB1 : Hid (Below w.heap.size w (wr.alloc (.cells (seC x) 52))) := HB.out.alloc HB.out.size _
      clear hx e1 e2 hC
      go_wp2_with fail
      refine (HCH.out _).mono ?_
      rintro e w2 ⟨rfl, hb2⟩
      have HB2 : Hid (Below w.heap.size w w2) := trans2 HB1.out hb2
      have HO2 : Hid (w2.ownsRow w.heap.size 46 4 u5 q (chCs ((l.take q).map (chC k)))) := owns_below (World.ownsRow.alloc HO.out _) hb2
      clear hb2 x0 x1 x2
      have hqs := HB2.out.size
      go_wp2_with (first
        | (at_builtin; refine wpList_appC rfl _ _ rfl w.heap.size u5 q (chCs ((l.take q).map (chC k))) rfl (World.ownsRow.alloc HO2.out _) (some ⟨w2.heap.size, 0, none⟩) 1 1 [C] rfl rfl (hs_one (heap_alloc_new _ _)) (fun h => by cases h) (by simp; omega) (by simp; omega) ?_
           intro v3 w3 ho3 hg3 hat3
           have HO3 : Hid (w3.ownsRow w.heap.size 46 4 v3 (q + 1) (chCs ((l.take (q + 1)).map (chC k)))) := by
             rw [take_snoc HX.out, List.map_append, chCs_append]
             simp only [List.map_cons, List.map_nil, HC.out]
             exact ho3
           have HB3 : Hid (Below w.heap.size w w3) := (HB2.out.alloc HB2.out.size _).trans ((Below.refl _ _).grown hg3 (by simp; omega) (fun j hj => (HO2.out.lt j hj).1))
           clear ho3 hg3 hat3)
        | fail)
      go_roundw
      case rel => exact ⟨q + 1, by go_num, by omega, HO3, HB3⟩
      case measure => simp [intOf]; omega
    · obtain rfl : q = n := by omega
      have hge : ¬ (q : Int) < (q : Int) := by omega
      have HO9 : Hid (wr.ownsRow w.heap.size 46 4 u5 q (chCs (l.map (chC k)))) := by
        have := HO.out
        rw [← HN.out, List.take_length] at this
        rw [← HN.out]
        exact this
      go_wp2_with fail
      go_ret
      exact ⟨u5, rfl, HO9.out, HB.out⟩
end Go.Proofs.YtbamkdohaofgdaaGreatDoor
