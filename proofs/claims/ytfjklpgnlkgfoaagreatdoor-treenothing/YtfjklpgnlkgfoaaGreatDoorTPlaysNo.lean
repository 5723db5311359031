/-
  tree: a step at no tree.
-/
import Derived.Test.YtfjklpgnlkgfoaaGreatDoorTUntouched
namespace Go.Proofs.YtfjklpgnlkgfoaaGreatDoor
open Go.RowKit Go.Maps
set_option linter.unusedVariables false
set_option linter.unusedSimpArgs false
theorem results_tmp_cell_tmp {P : Program} {fn : Func} {p q r : Tmp} {ty : TypeId} (h : fn.results = #[.tmp r, .cell p ty, .tmp q]) (tmps : Array Value) (w : World) (g : Nat) (t : TypeId) (cs : Array Value) (fr : Nat × Nat) (d : TypeDesc) (u v : Value)
    (hr : tmps.getD r undef = u) (hp : tmps.getD p undef = .pointer (some ⟨g, 0, none⟩)) (hq : tmps.getD q undef = v) (hg : w.heap[g]? = some (.cells cs t fr))
    (hu : P.underlying ty = some d) (hd : (match d with | .struct _ | .array _ _ => true | _ => false) = true) (hi : (P.info? ty).map (·.size) = some cs.size) :
    (results fn tmps).run P w = .ok (.tuple #[u, .agg cs, v]) w := by
  have hp' : tmps[p]?.getD undef = .pointer (some ⟨g, 0, none⟩) := by simpa using hp
  have hq' : tmps[q]?.getD undef = v := by simpa using hq
  have hr' : tmps[r]?.getD undef = u := by simpa using hr
  simp [results, h, hp', hq', hr', asAddr, run_loadVar_row w g t ty cs fr d hg hu hd hi]

abbrev stCs (k s st : Int) (a : Option Addr) (n c : Nat) (pl : ByteArray) (nn : Int) : Array Value := #[.int .i64 k, .int .i64 s, .int .i64 st, .slice a n c, .string pl, .int .i64 nn]
abbrev pW0 (w : World) (cs : Array Value) : World := ((w.alloc (.cells #[.slice none 0 0] 30)).alloc (.cells cs 36)).alloc (.cells #[.slice none 0 0] 30)
structure PlIn (w W : World) (cs : Array Value) : Prop where
  low : Below w.heap.size w W
  tr : W.heap[w.heap.size]? = some (.cells #[.slice none 0 0] 30 (0, 0))
  sp : W.heap[w.heap.size + 1]? = some (.cells cs 36 (0, 0))
  rs : W.heap[w.heap.size + 1 + 1]? = some (.cells #[.slice none 0 0] 30 (0, 0))
theorem plIn_start (w : World) (cs : Array Value) : PlIn w (pW0 w cs) cs :=
  ⟨(((Below.refl _ _).alloc (Nat.le_refl _) _).alloc (by simp) _).alloc (by simp; omega) _, heap_alloc_old (heap_alloc_old (heap_alloc_new _ _)), heap_alloc_old (heap_alloc_new' (by simp)), heap_alloc_new' (by simp)⟩
theorem PlIn.below {w W W' : World} {cs : Array Value} (h : PlIn w W cs) (hb : Below W.heap.size W W') : PlIn w W' cs :=
  ⟨trans2 h.low hb, kept_block hb h.tr, kept_block hb h.sp, kept_block hb h.rs⟩

set_option maxHeartbeats 3200000 in
set_option maxRecDepth 100000 in
theorem plays_part (w : World) (t : Value) (db : Nat) (ht : NoTree w t) (s st nn : Int) (a : Option Addr) (n c : Nat) (pl : ByteArray) :
    Calls Tryz.prog 4 #[t, noR, .agg (stCs 3 s st a n c pl nn), .pointer (some ⟨db, 0, none⟩)] w fun e w' => e = .returned (.tuple #[t, noR, .bool true]) ∧ Below w.heap.size w w' := by
  have HT : Hid (NoTree w t) := ht
  have HS : Hid _ := plIn_start w (stCs 3 s st a n c pl nn)
  clear ht
  go_enter Tryz.func4, Tryz.ntmps4
  go_wp2_with fail
  refine (refPart_no _ pl nn).mono ?_
  rintro e w1 ⟨rfl, hb1⟩
  have H1 : Hid (PlIn w w1 (stCs 3 s st a n c pl nn)) := HS.out.below hb1
  obtain ⟨s0, s1, s2, s3, s4, s5⟩ := cells_6 H1.out.sp
  clear hb1
  go_wp2_with fail
  refine (part_no (HT.out.below H1.out.low) pl nn).mono ?_
  rintro e w2 ⟨rfl, hb2⟩
  have H2 : Hid (PlIn w w2 (stCs 3 s st a n c pl nn)) := H1.out.below hb2
  have r0 := cells_1 H2.out.tr
  have r1 := cells_1 H2.out.rs
  have f1 := free_1 H2.out.rs
  clear hb2 s0 s1 s2 s3 s4 s5
  go_wp2_with fail
  go_region_held3 (fun w' => w'.cell? ⟨w.heap.size, 0, none⟩ = some (.slice none 0 0)) (first | go_keep | exact q0 | (rw [cellN (by omega)]; exact q0))
    (first
    | (go_at_call 16; go_in)
    | (go_at_call 17; refine (seen_no _).mono ?_; rintro e w3 ⟨rfl, hb3⟩
       have H3 : Hid (PlIn w w3 (stCs 3 s st a n c pl nn)) := H2.out.below (of_drew hb3)
       have q0 := cells_1 H3.out.tr
       have q1 := cells_1 H3.out.rs
       have g1 := free_1 H3.out.rs
       clear hb3)
    | fail)
  go_wp2_with fail
  exact bodyPost_ret (results_tmp_cell_tmp rfl _ _ (w.heap.size + 1 + 1) 30 #[.slice none 0 0] (0, 0) _ t (.bool true) rfl rfl rfl (same_blk H3.out.rs rfl) Tryz.underlying30 rfl (by kernel_rfl)) rfl ⟨rfl, H3.out.low.setCell (by simp; omega) _⟩

set_option maxHeartbeats 3200000 in
set_option maxRecDepth 100000 in
theorem plays_nodes (w : World) (t : Value) (db : Nat) (ht : NoTree w t) (s st nn : Int) (a : Option Addr) (n c : Nat) (pl : ByteArray) :
    Calls Tryz.prog 4 #[t, noR, .agg (stCs 4 s st a n c pl nn), .pointer (some ⟨db, 0, none⟩)] w fun e w' => e = .returned (.tuple #[t, noR, .bool true]) ∧ Below w.heap.size w w' := by
  have HT : Hid (NoTree w t) := ht
  have HS : Hid _ := plIn_start w (stCs 4 s st a n c pl nn)
  clear ht
  go_enter Tryz.func4, Tryz.ntmps4
  go_wp2_with fail
  refine (nodes_no (HT.out.below HS.out.low)).mono ?_
  rintro e w1 ⟨rfl, hb1⟩
  have H1 : Hid (PlIn w w1 (stCs 4 s st a n c pl nn)) := HS.out.below hb1
  have r0 := cells_1 H1.out.tr
  clear hb1
  go_wp2_with fail
  go_region_held3 (fun w' => w'.cell? ⟨w.heap.size, 0, none⟩ = some (.slice none 0 0)) (first | go_keep | exact q0 | (rw [cellN (by omega)]; exact q0) | exact z0)
    (first
    | (go_at_call 20; refine (refNodes_no _).mono ?_; rintro e w2 ⟨rfl, hb2⟩
       have H2 : Hid (PlIn w w2 (stCs 4 s st a n c pl nn)) := H1.out.below (of_drew hb2)
       have z0 := cells_1 H2.out.tr
       clear hb2)
    | (go_at_call 19; refine (fulls_no _).mono ?_; rintro e w3 ⟨rfl, hb3⟩
       have H3 : Hid (PlIn w w3 (stCs 4 s st a n c pl nn)) := H2.out.below hb3
       have q0 := cells_1 H3.out.tr
       have q1 := cells_1 H3.out.rs
       have g1 := free_1 H3.out.rs
       clear hb3)
    | fail)
  go_wp2_with fail
  exact bodyPost_ret (results_tmp_cell_tmp rfl _ _ (w.heap.size + 1 + 1) 30 #[.slice none 0 0] (0, 0) _ t (.bool true) rfl rfl rfl (same_blk H3.out.rs rfl) Tryz.underlying30 rfl (by kernel_rfl)) rfl ⟨rfl, H3.out.low.setCell (by simp; omega) _⟩
set_option maxHeartbeats 3200000 in
set_option maxRecDepth 100000 in
theorem plays_end (w : World) (t : Value) (db : Nat) (ht : NoTree w t) (s st nn : Int) (a : Option Addr) (n c : Nat) (pl : ByteArray) :
    Calls Tryz.prog 4 #[t, noR, .agg (stCs 2 s st a n c pl nn), .pointer (some ⟨db, 0, none⟩)] w fun e w' => e = .returned (.tuple #[t, noR, .bool true]) ∧ Below w.heap.size w w' := by
  have HT : Hid (NoTree w t) := ht
  have HS : Hid _ := plIn_start w (stCs 2 s st a n c pl nn)
  clear ht
  go_enter Tryz.func4, Tryz.ntmps4
  go_wp2_with fail
  refine (refEnd_no _ s).mono ?_
  rintro e w1 ⟨rfl, hb1⟩
  have H1 : Hid (PlIn w w1 (stCs 2 s st a n c pl nn)) := HS.out.below hb1
  have HA : Hid (PlIn w (w1.alloc (.cells #[.slice none 0 0] 30)) (stCs 2 s st a n c pl nn)) := H1.out.below ((Below.refl _ _).alloc (Nat.le_refl _) _)
  obtain ⟨s0, s1, s2, s3, s4, s5⟩ := cells_6 HA.out.sp
  clear hb1
  go_wp2_with fail
  refine (end_no (HT.out.below HA.out.low) s).mono ?_
  rintro e w2 ⟨rfl, hb2⟩
  have H2 : Hid (PlIn w w2 (stCs 2 s st a n c pl nn)) := HA.out.below hb2
  have HV : Hid (w2.heap[w1.heap.size]? = some (.cells #[.slice none 0 0] 30 (0, 0))) := kept_block hb2 (heap_alloc_new _ _)
  have hls := H1.out.low.size
  have hrl : w.heap.size + 1 + 1 < w1.heap.size := (Array.getElem?_eq_some_iff.1 H1.out.rs).1
  have z0 := cells_1 HV.out
  clear hb2 s0 s1 s2 s3 s4 s5
  go_wp2_with fail
  go_region_held3 (fun w' => w'.cell? ⟨w1.heap.size, 0, none⟩ = some (.slice none 0 0)) (first | go_keep | exact q0 | (rw [cellN (by omega)]; exact q0) | exact z0)
    (first
    | (go_at_call 11; refine (changes_no _).mono ?_; rintro e w3 ⟨rfl, hb3⟩
       have H3 : Hid (PlIn w w3 (stCs 2 s st a n c pl nn)) := H2.out.below (of_drew hb3)
       have q0 := cells_1 (kept_block (of_drew hb3) HV.out)
       have q1 := cells_1 H3.out.rs
       have g1 := free_1 H3.out.rs
       clear hb3)
    | fail)
  go_wp2_with fail
  exact bodyPost_ret (results_tmp_cell_tmp rfl _ _ (w.heap.size + 1 + 1) 30 #[.slice none 0 0] (0, 0) _ t (.bool true) rfl rfl rfl (same_blk H3.out.rs rfl) Tryz.underlying30 rfl (by kernel_rfl)) rfl ⟨rfl, H3.out.low.setCell (by simp; omega) _⟩
set_option maxHeartbeats 3200000 in
set_option maxRecDepth 100000 in
theorem plays_else (w : World) (t : Value) (db : Nat) (k s st nn : Int) (a : Option Addr) (n c : Nat) (pl : ByteArray) (h1 : ¬ k = 1) (h2 : ¬ k = 2) (h3 : ¬ k = 3) (h4 : ¬ k = 4) (h5 : ¬ k = 5) :
    Calls Tryz.prog 4 #[t, noR, .agg (stCs k s st a n c pl nn), .pointer (some ⟨db, 0, none⟩)] w fun e w' => e = .returned (.tuple #[t, noR, .bool true]) ∧ Below w.heap.size w w' := by
  have HS : Hid _ := plIn_start w (stCs k s st a n c pl nn)
  go_enter Tryz.func4, Tryz.ntmps4
  go_wp2_with fail
  have q0 := cells_1 HS.out.tr
  have q1 := cells_1 HS.out.rs
  have g1 := free_1 HS.out.rs
  go_region_held3 (fun w' => w'.cell? ⟨w.heap.size, 0, none⟩ = some (.slice none 0 0)) (first | go_keep | exact q0 | (rw [cellN (by omega)]; exact q0)) (fail)
  go_wp2_with fail
  exact bodyPost_ret (results_tmp_cell_tmp rfl _ _ (w.heap.size + 1 + 1) 30 #[.slice none 0 0] (0, 0) _ t (.bool true) rfl rfl rfl ((heap_drew_at _ _).trans HS.out.rs) Tryz.underlying30 rfl (by kernel_rfl)) rfl ⟨rfl, below_drew HS.out.low⟩
end Go.Proofs.YtfjklpgnlkgfoaaGreatDoor
